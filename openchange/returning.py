"""Ways back from a plan that is given up on the way."""

from openchange.courses import Course, check_size
from openchange.errors import BadBack, BadMove, BadPlan, BadVersion
from openchange.forms import is_integer
from openchange.plans import Plan
from openchange.searching import all_triples, check_many_plans, check_most
from openchange.standings import explored, goes_wrong, is_closed, reached, way_to


class CanReturn:
    """A closed table of each way back, in which nothing goes wrong."""

    def __init__(self, tables):
        self.tables = {version: tuple(tables[version]) for version in tables}

    def __eq__(self, other):
        return isinstance(other, CanReturn) and self.tables == other.tables

    def __bool__(self):
        return True

    def shows(self, plan, backs, lag):
        """Whether the tables show that nothing goes wrong on these ways back."""
        course, ways = _course_and_ways(plan, backs, lag)
        if len(self.tables) != len(ways) or not all([version in ways for version in self.tables]):
            return False
        # True, which equals 1, is no version.
        if not all([is_integer(version) for version in self.tables]):
            return False
        came = reached(course)
        return all([is_closed(ways[version], self.tables[version], _beginnings(ways[version], came, version))
                    for version in ways])


class CannotReturn:
    """A first world and moves there and back by which a way back goes wrong."""

    def __init__(self, version, world, there, back):
        self.version = version
        self.world = world
        self.there = tuple(there)
        self.back = tuple(back)

    def __eq__(self, other):
        return (isinstance(other, CannotReturn) and self.version == other.version and self.world == other.world
                and self.there == other.there and self.back == other.back)

    def __bool__(self):
        return False

    def shows(self, plan, backs, lag):
        """Whether the moves show that one of these ways back goes wrong."""
        course, ways = _course_and_ways(plan, backs, lag)
        if not is_integer(self.version) or self.version not in ways or not course.is_first_world(self.world):
            return False
        try:
            standing, _ = course.followed(course.beginning(self.world), self.there)
        except BadMove:
            return False
        if standing is None or not _is_turn(standing, self.version):
            return False
        way = ways[self.version]
        return goes_wrong(way, way.beginning(standing[3]), self.back)


def judge_back(plan, backs, lag):
    """A CanReturn if nothing goes wrong on these ways back, otherwise a CannotReturn."""
    course, ways = _course_and_ways(plan, backs, lag)
    came = reached(course)
    tables = {}
    for version in ways:
        table, wrong = explored(ways[version], _beginnings(ways[version], came, version))
        if wrong is not None:
            beginning, back = wrong
            first, there = way_to(came, _turns(came, version)[beginning[3]])
            return CannotReturn(version, first[3], there, back)
        tables[version] = table
    return CanReturn(tables)


def worlds_at(plan, lag, version):
    """The list of all worlds in which a plan can be given up at a version."""
    course = _course_at(plan, lag, version)
    return list(_turns(reached(course), version))


def shortest_back(plan, version, lag, most):
    """The first plan that is a way back without a fault and with nothing left over, None if none is."""
    course = _course_at(plan, lag, version)
    check_most(most)
    first, last = plan.sets[version], plan.sets[0]
    element = plan.kept_up()
    check_many_plans(element, first, last, most)
    if not element.firsts(first):
        raise BadPlan("first")
    came = reached(course)
    for sets, job, at in all_triples(element, first, last, most):
        back = plan.like(sets, job, at)
        way = Course(back, lag)
        _, wrong = explored(way, _beginnings(way, came, version))
        if wrong is None:
            return back
    return None


def _course_at(plan, lag, version):
    """The course of a plan that is to be given up at a version."""
    course = Course(plan, lag)
    if not _is_version(plan, version):
        raise BadVersion(version)
    check_size(course)
    return course


def _course_and_ways(plan, backs, lag):
    """The course of a plan, and a dict from versions to the courses of their ways back."""
    course = Course(plan, lag)
    for version in backs:
        if not _is_version(plan, version) or not _is_back(plan, version, backs[version]):
            raise BadBack(version)
    ways = {version: Course(backs[version], lag) for version in backs}
    check_size(course)
    for version in ways:
        check_size(ways[version])
    return course, ways


def _is_version(plan, value):
    """Whether a value is a version of a plan."""
    return is_integer(value) and 0 <= value <= plan.last()


def _is_back(plan, version, value):
    """Whether a value is a plan from the set of a version to the first set."""
    return (isinstance(value, Plan) and value.kind == plan.kind and value.sets[0] == plan.sets[version]
            and value.sets[-1] == plan.sets[0])


def _is_turn(standing, version):
    """Whether a plan can be given up at a standing, with all servers at a version."""
    low, high, phase, _ = standing
    return low == high == version and not isinstance(phase, tuple)


def _turns(came, version):
    """A dict from the worlds in which the plan can be given up at a version to standings with them."""
    return {standing[3]: standing for standing in came if _is_turn(standing, version)}


def _beginnings(way, came, version):
    """The standings at which a way back begins."""
    return [way.beginning(world) for world in _turns(came, version)]

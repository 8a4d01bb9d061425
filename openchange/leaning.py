"""An index on a column that changes, too: whether both changes go on safely side by side."""

from openchange.errors import BadLean
from openchange.forms import is_integer
from openchange.leancourses import LeanCourse, LeanKind
from openchange.plans import Plan, check_lag
from openchange.standings import explored, goes_wrong, is_closed

MOST_OFFSET = 40


class Leaning:
    """A plan of a column, a plan of an index on it, and how many versions later this one begins."""

    def __init__(self, column, index, offset):
        if not isinstance(column, Plan) or column.kind not in ("column", "whole"):
            raise BadLean("column")
        if not isinstance(index, Plan) or index.kind != "index":
            raise BadLean("index")
        if not is_integer(offset) or not 0 <= offset <= MOST_OFFSET:
            raise BadLean("offset")
        if not LeanKind(column.kind).firsts((column.sets[0], index.sets[0])):
            raise BadLean("first")
        self.column = column
        self.index = index
        self.offset = offset

    def last(self):
        """The number of the last version."""
        return max(self.column.last(), self.offset + self.index.last())

    def sets_at(self, version):
        """The pair of the duties, for the column and for the index, of servers of a version."""
        return (_set_at(self.column, version), _set_at(self.index, version - self.offset))


def _set_at(plan, version):
    """The set of a plan's version, the first one ahead of the plan, the last one behind its end."""
    return plan.sets[max(0, min(version, plan.last()))]


class LeanSafe:
    """A closed lot of standings in which nothing goes wrong."""

    def __init__(self, table):
        self.table = tuple(table)

    def __eq__(self, other):
        return isinstance(other, LeanSafe) and self.table == other.table

    def __bool__(self):
        return True

    def shows(self, leaning, lag):
        """Whether the table shows that a leaning is safe for a lag."""
        course = LeanCourse(leaning, lag)
        return is_closed(course, self.table, course.beginnings())


class LeanWrong:
    """A first world, and moves from it by which it goes wrong."""

    def __init__(self, world, moves):
        self.world = world
        self.moves = tuple(moves)

    def __eq__(self, other):
        return isinstance(other, LeanWrong) and self.world == other.world and self.moves == other.moves

    def __bool__(self):
        return False

    def shows(self, leaning, lag):
        """Whether the moves show that a leaning is not safe for a lag."""
        course = LeanCourse(leaning, lag)
        return course.is_first_world(self.world) and goes_wrong(course, course.beginning(self.world), self.moves)


class LeastOffset:
    """The least safe offset, a LeanSafe that shows it, and a LeanWrong of each lesser one; None twice if none is."""

    def __init__(self, offset, paper, against):
        self.offset = offset
        self.paper = paper
        self.against = {lesser: against[lesser] for lesser in against}

    def __eq__(self, other):
        return (isinstance(other, LeastOffset) and self.offset == other.offset and self.paper == other.paper
                and self.against == other.against)

    def __bool__(self):
        return self.offset is not None

    def shows(self, column, index, lag):
        """Whether this is the least offset with which two plans are safe, or there is none."""
        leanings = _leanings(column, index, lag)
        if self.offset is None:
            return self.paper is None and _show_wrong(self.against, leanings, lag)
        if not is_integer(self.offset) or not 0 <= self.offset < len(leanings) or not isinstance(self.paper, LeanSafe):
            return False
        return (self.paper.shows(leanings[self.offset], lag)
                and _show_wrong(self.against, leanings[:self.offset], lag))


def judge_lean(leaning, lag):
    """A LeanSafe if a leaning is safe for a lag, otherwise a LeanWrong with the fewest moves."""
    course = LeanCourse(leaning, lag)
    table, wrong = explored(course, course.beginnings())
    if wrong is None:
        return LeanSafe(table)
    beginning, moves = wrong
    return LeanWrong(beginning[3], moves)


def least_offset(column, index, lag):
    """The LeastOffset of two plans, from 0 to the column's last version."""
    against = {}
    for leaning in _leanings(column, index, lag):
        told = judge_lean(leaning, lag)
        if told:
            return LeastOffset(leaning.offset, told, against)
        against[leaning.offset] = told
    return LeastOffset(None, None, against)


def _leanings(column, index, lag):
    """The leanings of two plans with all offsets that are looked at, ascending."""
    check_lag(lag)
    nearest = Leaning(column, index, 0)
    return [nearest] + [Leaning(column, index, offset) for offset in range(1, column.last() + 1)]


def _show_wrong(against, leanings, lag):
    """Whether a dict has a LeanWrong that shows for the offset of each leaning, and nothing else."""
    # True, which equals 1, is no offset.
    if len(against) != len(leanings) or not all([is_integer(offset) for offset in against]):
        return False
    return all([_shows_wrong(against.get(leaning.offset), leaning, lag) for leaning in leanings])


def _shows_wrong(told, leaning, lag):
    return isinstance(told, LeanWrong) and told.shows(leaning, lag)

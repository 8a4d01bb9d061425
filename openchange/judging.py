"""Which plans are safe: judged for all tables, servers and runs at once."""

from openchange.courses import Course, check_size
from openchange.standings import explored, goes_wrong, is_closed


class Safe:
    """A closed lot of standings in which nothing goes wrong."""

    def __init__(self, table):
        self.table = tuple(table)

    def __eq__(self, other):
        return isinstance(other, Safe) and self.table == other.table

    def __bool__(self):
        return True

    def shows(self, plan, lag):
        """Whether the table shows that a plan is safe for a lag."""
        course = Course(plan, lag)
        return is_closed(course, self.table, course.beginnings())


class Wrong:
    """A first world, and moves from it by which it goes wrong."""

    def __init__(self, world, moves):
        self.world = world
        self.moves = tuple(moves)

    def __eq__(self, other):
        return isinstance(other, Wrong) and self.world == other.world and self.moves == other.moves

    def __bool__(self):
        return False

    def shows(self, plan, lag):
        """Whether the moves show that a plan is not safe for a lag."""
        course = Course(plan, lag)
        return course.is_first_world(self.world) and goes_wrong(course, course.beginning(self.world), self.moves)


def judge(plan, lag):
    """A Safe if a plan is safe for a lag, otherwise a Wrong with the fewest moves."""
    course = Course(plan, lag)
    check_size(course)
    table, wrong = explored(course, course.beginnings())
    if wrong is None:
        return Safe(table)
    beginning, moves = wrong
    return Wrong(beginning[3], moves)


def moved(plan, lag, world, moves):
    """The pair of the standing behind moves, None if the job gave up, and the last one's fault."""
    course = Course(plan, lag)
    return course.followed(course.beginning(world), moves)

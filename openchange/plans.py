"""Plans: the duties of each version, and the job that is done on the way."""

from openchange.errors import BadLag, BadPlan, TooLarge
from openchange.forms import is_integer
from openchange.kinds import KINDS, kind_of

MOST_SETS = 40
MOST_LAG = 20


class Plan:
    """The sets of duties of the versions from 0, and a job in one of them."""

    def __init__(self, kind, sets, job="", at=0):
        if kind not in KINDS:
            raise BadPlan("kind")
        element = kind_of(kind)
        check_parts(element, sets, job, at)
        if not element.firsts(sets[0]):
            raise BadPlan("first")
        self.kind = kind
        self.sets = tuple(sets)
        self.job = job
        self.at = at

    def __eq__(self, other):
        return (isinstance(other, Plan) and self.kind == other.kind and self.sets == other.sets
                and self.job == other.job and self.at == other.at)

    def last(self):
        """The number of the last version."""
        return len(self.sets) - 1

    def kept_up(self):
        """The kind of what is kept up."""
        return kind_of(self.kind)

    def like(self, sets, job, at):
        """A plan of the same kind."""
        return Plan(self.kind, sets, job, at)


def check_parts(element, sets, job, at):
    """Raises BadPlan for the first part that no plan of a kind can have."""
    if not _are_sets(sets, element.duties):
        raise BadPlan("sets")
    if job != "" and job not in element.jobs:
        raise BadPlan("job")
    if not _is_place(at, len(sets) if job else 1):
        raise BadPlan("at")


def _are_sets(sets, duties):
    """Whether a value is a row of as many sets of these duties as a plan may have."""
    if not isinstance(sets, (list, tuple)) or not 1 <= len(sets) <= MOST_SETS:
        return False
    return all([_is_set(value, duties) for value in sets])


def _is_set(value, duties):
    """Whether a value is an ascending tuple of different ones of these duties."""
    return isinstance(value, tuple) and list(value) == [duty for duty in duties if duty in value]


def _is_place(at, many):
    """Whether a value is a place among so many."""
    return is_integer(at) and 0 <= at < many


def check_lag(lag):
    """Raises BadLag for what is no lag."""
    if not is_integer(lag) or not 1 <= lag <= MOST_LAG:
        raise BadLag(lag)


def held(plan, lag):
    """The plan in which each set but the first and the last one stands lag times."""
    check_lag(lag)
    copies = [1 if version in (0, plan.last()) else lag for version in range(len(plan.sets))]
    number = sum(copies)
    if number > MOST_SETS:
        raise TooLarge(number)
    sets = [duties for duties, many in zip(plan.sets, copies) for _ in range(many)]
    at = sum(copies[:plan.at + 1]) - 1 if plan.job else 0
    return plan.like(sets, plan.job, at)

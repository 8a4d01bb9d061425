"""The first safe one of all plans from one set of duties to another."""

from openchange.errors import BadPlan, TooLarge
from openchange.forms import is_integer
from openchange.judging import Safe, Wrong, judge
from openchange.kinds import kind_of
from openchange.plans import Plan, check_lag

MOST_VERSIONS = 9
MOST_PLANS = 2000


class Shortest:
    """The first safe plan, a Safe that shows it, and a Wrong of each plan ahead of it."""

    def __init__(self, plan, paper, against):
        self.plan = plan
        self.paper = paper
        self.against = {triple: against[triple] for triple in against}

    def __eq__(self, other):
        return (isinstance(other, Shortest) and self.plan == other.plan and self.paper == other.paper
                and self.against == other.against)

    def __bool__(self):
        return True

    def shows(self, kind, first, last, lag, most):
        """Whether this is the first safe plan from one set to another."""
        triples = _asked_triples(kind, first, last, lag, most)
        if not isinstance(self.plan, Plan) or not isinstance(self.paper, Safe) or self.plan.kind != kind:
            return False
        triple = (self.plan.sets, self.plan.job, self.plan.at)
        if triple not in triples or not self.paper.shows(self.plan, lag):
            return False
        return _show_wrong(self.against, kind, triples[:triples.index(triple)], lag)


class NoPlan:
    """A Wrong of each plan: none of them is safe."""

    def __init__(self, against):
        self.against = {triple: against[triple] for triple in against}

    def __eq__(self, other):
        return isinstance(other, NoPlan) and self.against == other.against

    def __bool__(self):
        return False

    def shows(self, kind, first, last, lag, most):
        """Whether no plan from one set to another is safe."""
        return _show_wrong(self.against, kind, _asked_triples(kind, first, last, lag, most), lag)


def _asked_triples(kind, first, last, lag, most):
    """The triples of all plans, if what is asked is as described."""
    Plan(kind, [first, last])
    check_lag(lag)
    check_most(most)
    check_many_plans(kind, first, last, most)
    return all_triples(kind, first, last, most)


def _show_wrong(against, kind, triples, lag):
    """Whether a dict has a Wrong that shows for each of these triples, and nothing else."""
    if len(against) != len(triples) or not all([triple in against for triple in triples]):
        return False
    # True, which equals 1, is no version.
    if not all([is_integer(at) for _, _, at in against]):
        return False
    return all([_shows_wrong(against[triple], kind, triple, lag) for triple in triples])


def _shows_wrong(told, kind, triple, lag):
    sets, job, at = triple
    return isinstance(told, Wrong) and told.shows(Plan(kind, sets, job, at), lag)


def shortest(kind, first, last, lag, most):
    """A Shortest with the first safe plan from one set to another, a NoPlan if none is safe."""
    against = {}
    for triple in _asked_triples(kind, first, last, lag, most):
        sets, job, at = triple
        plan = Plan(kind, sets, job, at)
        told = judge(plan, lag)
        if told:
            return Shortest(plan, told, against)
        against[triple] = told
    return NoPlan(against)


def check_most(most):
    """Raises BadPlan for what is no greatest number of versions."""
    if not is_integer(most) or not 1 <= most <= MOST_VERSIONS:
        raise BadPlan("most")


def check_many_plans(kind, first, last, most):
    """Raises TooLarge if there are too many plans from one set to another."""
    element = kind_of(kind)
    number = 0
    for many in _numbers_of_versions(first, last, most):
        number += (1 + len(element.jobs) * many) * _count_rows(element, many - 2)
    if number > MOST_PLANS:
        raise TooLarge(number)


def _count_rows(element, many):
    """The number of all rows of so many sets of duties."""
    number = 1
    for _ in range(many * len(element.duties)):
        number = number * 2
    return number


def _numbers_of_versions(first, last, most):
    """The numbers of versions that plans from one set to another may have, ascending."""
    return list(range(1 if first == last else 2, most + 1))


def all_triples(kind, first, last, most):
    """The triples (sets, job, at) of all plans from one set to another, in their order."""
    element = kind_of(kind)
    triples = []
    for many in _numbers_of_versions(first, last, most):
        rows = _rows_of_sets(element, first, last, many)
        jobs = [("", 0)] + [(job, at) for job in element.jobs for at in range(many)]
        triples.extend([(sets, job, at) for job, at in jobs for sets in rows])
    return triples


def _rows_of_sets(element, first, last, many):
    """All rows of so many sets from one set to another, ascending."""
    if many == 1:
        return [(first,)]
    between = [()]
    for _ in range(many - 2):
        between = [(*ahead, duties) for ahead in between for duties in _all_sets(element)]
    return [(first, *row, last) for row in between]


def _all_sets(element):
    """All sets of duties of a kind, ascending."""
    sets = [()]
    for duty in element.duties:
        sets = sets + [(*chosen, duty) for chosen in sets]
    return sorted(sets)

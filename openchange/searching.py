"""The plans from one set of duties to another in their order, and the first safe one of them."""

from openchange.errors import BadPlan, TooLarge
from openchange.forms import is_integer
from openchange.judging import Safe, Wrong, judge

MOST_VERSIONS = 9
MOST_PLANS = 2000


def check_most(most):
    """Raises BadPlan for what is no greatest number of versions."""
    if not is_integer(most) or not 1 <= most <= MOST_VERSIONS:
        raise BadPlan("most")


def check_many_plans(element, first, last, most):
    """Raises TooLarge if there are too many plans of a kind from one set to another."""
    number = 0
    for many in _numbers_of_versions(first, last, most):
        number += (1 + len(element.jobs) * many) * _count_rows(element, many - 2)
    if number > MOST_PLANS:
        raise TooLarge(number)


def _count_rows(element, many):
    """The number of all rows of so many sets of duties."""
    number = 1
    for _ in range(many * len(element.duties)):
        number = number * 2
    return number


def _numbers_of_versions(first, last, most):
    """The numbers of versions that plans from one set to another may have, ascending."""
    return list(range(1 if first == last else 2, most + 1))


def all_triples(element, first, last, most):
    """The triples (sets, job, at) of all plans of a kind from one set to another, in their order."""
    triples = []
    for many in _numbers_of_versions(first, last, most):
        rows = _rows_of_sets(element, first, last, many)
        jobs = [("", 0)] + [(job, at) for job in element.jobs for at in range(many)]
        triples.extend([(sets, job, at) for job, at in jobs for sets in rows])
    return triples


def _rows_of_sets(element, first, last, many):
    """All rows of so many sets from one set to another, ascending."""
    if many == 1:
        return [(first,)]
    between = [()]
    for _ in range(many - 2):
        between = [(*ahead, duties) for ahead in between for duties in _all_sets(element)]
    return [(first, *row, last) for row in between]


def _all_sets(element):
    """All sets of duties of a kind, ascending."""
    sets = [()]
    for duty in element.duties:
        sets = sets + [(*chosen, duty) for chosen in sets]
    return sorted(sets)


def first_safe(model, triples, lag):
    """The first safe one of the plans that are like a model, and have these triples.

    Returns it, a Safe that shows it, and a dict with a Wrong of each one ahead of it;
    None twice, and the dict, if none is safe.
    """
    against = {}
    for triple in triples:
        plan = model.like(*triple)
        told = judge(plan, lag)
        if told:
            return plan, told, against
        against[triple] = told
    return None, None, against


def show_first_safe(found, model, triples, lag):
    """Whether a plan is the first safe one, as its paper and those against the others show."""
    triple = (found.plan.sets, found.plan.job, found.plan.at)
    if triple not in triples or found.plan != model.like(*triple):
        return False
    if not isinstance(found.paper, Safe) or not found.paper.shows(found.plan, lag):
        return False
    return show_wrong(found.against, model, triples[:triples.index(triple)], lag)


def show_wrong(against, model, triples, lag):
    """Whether a dict has a Wrong that shows for each of these triples, and nothing else."""
    if len(against) != len(triples) or not all([triple in against for triple in triples]):
        return False
    # True, which equals 1, is no version.
    if not all([is_integer(at) for _, _, at in against]):
        return False
    return all([_shows_wrong(against[triple], model.like(*triple), lag) for triple in triples])


def _shows_wrong(told, plan, lag):
    return isinstance(told, Wrong) and told.shows(plan, lag)

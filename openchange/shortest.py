"""The first safe one of all plans from one set of duties to another."""

from openchange.plans import Plan, check_lag
from openchange.searching import all_triples, check_many_plans, check_most, first_safe, show_first_safe, show_wrong


class Shortest:
    """The first safe plan, a Safe that shows it, and a Wrong of each plan ahead of it."""

    def __init__(self, plan, paper, against):
        self.plan = plan
        self.paper = paper
        self.against = {triple: against[triple] for triple in against}

    def __eq__(self, other):
        return (isinstance(other, Shortest) and self.plan == other.plan and self.paper == other.paper
                and self.against == other.against)

    def __bool__(self):
        return True

    def shows(self, kind, first, last, lag, most):
        """Whether this is the first safe plan from one set to another."""
        model, triples = _asked(kind, first, last, lag, most)
        return isinstance(self.plan, Plan) and show_first_safe(self, model, triples, lag)


class NoPlan:
    """A Wrong of each plan: none of them is safe."""

    def __init__(self, against):
        self.against = {triple: against[triple] for triple in against}

    def __eq__(self, other):
        return isinstance(other, NoPlan) and self.against == other.against

    def __bool__(self):
        return False

    def shows(self, kind, first, last, lag, most):
        """Whether no plan from one set to another is safe."""
        model, triples = _asked(kind, first, last, lag, most)
        return show_wrong(self.against, model, triples, lag)


def _asked(kind, first, last, lag, most):
    """A plan of the kind, and the triples of all that are asked for, if what is asked is as described."""
    model = Plan(kind, [first, last])
    check_lag(lag)
    check_most(most)
    element = model.kept_up()
    check_many_plans(element, first, last, most)
    return model, all_triples(element, first, last, most)


def shortest(kind, first, last, lag, most):
    """A Shortest with the first safe plan from one set to another, a NoPlan if none is safe."""
    model, triples = _asked(kind, first, last, lag, most)
    plan, paper, against = first_safe(model, triples, lag)
    if plan is None:
        return NoPlan(against)
    return Shortest(plan, paper, against)

"""Plans of an index whose deeds are done in parts, and may fall between them."""

from openchange.errors import BadPlan
from openchange.forms import is_pair
from openchange.judging import Safe, Wrong, judge
from openchange.partedkinds import PartedKind
from openchange.plans import check_lag, check_parts
from openchange.searching import (all_triples, check_many_plans, check_most, first_safe, show_first_safe,
                                  show_wrong)

ORDERS = ("ahead", "behind")


class PartedPlan:
    """The sets of duties of the versions from 0, a job in one of them, and the orders of a deed's parts."""

    def __init__(self, sets, job, at, orders):
        if not _are_orders(orders):
            raise BadPlan("orders")
        element = PartedKind(orders)
        check_parts(element, sets, job, at)
        if not element.firsts(sets[0]):
            raise BadPlan("first")
        self.sets = tuple(sets)
        self.job = job
        self.at = at
        self.orders = orders

    def __eq__(self, other):
        return (isinstance(other, PartedPlan) and self.sets == other.sets and self.job == other.job
                and self.at == other.at and self.orders == other.orders)

    def last(self):
        """The number of the last version."""
        return len(self.sets) - 1

    def firsts(self):
        """The list of the first worlds."""
        return list(self.kept_up().firsts(self.sets[0]))

    def kept_up(self):
        """The kind of what is kept up."""
        return PartedKind(self.orders)

    def like(self, sets, job, at):
        """A plan with the same orders."""
        return PartedPlan(sets, job, at, self.orders)


class OrdersTold:
    """For all orders a Safe or a Wrong of the plan with them, or None if it has no first worlds."""

    def __init__(self, papers):
        self.papers = {orders: papers[orders] for orders in papers}

    def __eq__(self, other):
        return isinstance(other, OrdersTold) and self.papers == other.papers

    def safe(self):
        """The ascending tuple of the orders with which the plan is safe."""
        return tuple(sorted([orders for orders in self.papers if isinstance(self.papers[orders], Safe)]))

    def shows(self, sets, job, at, lag):
        """Whether it is so for a plan of these sets."""
        plans = _plans_of_orders(sets, job, at, lag)
        if len(self.papers) != len(plans) or not all([orders in self.papers for orders in plans]):
            return False
        return all([_is_so(self.papers[orders], plans[orders], lag) for orders in plans])


class ShortestParted:
    """The first safe plan, a Safe that shows it, and a Wrong of each plan ahead of it; None twice if none is safe."""

    def __init__(self, plan, paper, against):
        self.plan = plan
        self.paper = paper
        self.against = {triple: against[triple] for triple in against}

    def __eq__(self, other):
        return (isinstance(other, ShortestParted) and self.plan == other.plan and self.paper == other.paper
                and self.against == other.against)

    def __bool__(self):
        return self.plan is not None

    def shows(self, first, last, lag, most, orders):
        """Whether this is the first safe plan from one set to another with these orders, or none is."""
        model, triples = _asked(first, last, lag, most, orders)
        if self.plan is None:
            return self.paper is None and show_wrong(self.against, model, triples, lag)
        return isinstance(self.plan, PartedPlan) and show_first_safe(self, model, triples, lag)


def judge_orders(sets, job, at, lag):
    """An OrdersTold of a plan of these sets, with all orders."""
    plans = _plans_of_orders(sets, job, at, lag)
    return OrdersTold({orders: None if plans[orders] is None else judge(plans[orders], lag) for orders in plans})


def shortest_parted(first, last, lag, most, orders):
    """A ShortestParted of all plans with these orders from one set to another."""
    model, triples = _asked(first, last, lag, most, orders)
    plan, paper, against = first_safe(model, triples, lag)
    return ShortestParted(plan, paper, against)


def _are_orders(value):
    """Whether a value is a pair of orders."""
    return is_pair(value) and value[0] in ORDERS and value[1] in ORDERS


def _plans_of_orders(sets, job, at, lag):
    """A dict from all orders to the plan of these sets with them, None if it has no first worlds."""
    all_orders = [(putting, dropping) for putting in ORDERS for dropping in ORDERS]
    check_parts(PartedKind(all_orders[0]), sets, job, at)
    check_lag(lag)
    return {orders: PartedPlan(sets, job, at, orders) if PartedKind(orders).firsts(sets[0]) else None
            for orders in all_orders}


def _is_so(paper, plan, lag):
    """Whether a paper is what judging a plan, or None, comes to."""
    if plan is None:
        return paper is None
    return isinstance(paper, (Safe, Wrong)) and paper.shows(plan, lag)


def _asked(first, last, lag, most, orders):
    """A plan with the orders, and the triples of all that are asked for, if what is asked is as described."""
    model = PartedPlan([first, last], "", 0, orders)
    check_most(most)
    element = model.kept_up()
    check_many_plans(element, first, last, most)
    check_lag(lag)
    return model, all_triples(element, first, last, most)

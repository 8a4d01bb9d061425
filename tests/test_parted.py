"""[41] to [46]: plans of an index whose deeds are done in parts."""

import unittest
from itertools import combinations, product
from unittest import mock

from openchange import searching
from openchange.errors import BadLag, BadMove, BadPlan, TooLarge
from openchange.judging import Safe, Wrong, judge, moved
from openchange.parted import OrdersTold, PartedPlan, ShortestParted, judge_orders, shortest_parted
from openchange.plans import Plan
from tests import model
from tests.test_plans import BAD_LAGS
from tests.test_shortest import BAD_MOSTS

DUTIES = ("drop", "look", "put", "read")
SETS = [chosen for many in range(5) for chosen in combinations(DUTIES, many)]
ALL_ORDERS = list(product(("ahead", "behind"), repeat=2))
JOBS = ("clean", "empty", "fill", "rebuild")
BEST = ("ahead", "behind")
LOOKED = ("drop", "look", "put")
COMING = [(), ("drop", "put"), LOOKED]
BAD_ORDERS = (None, 7, "ahead", ["ahead", "behind"], ("ahead",), ("ahead", "behind", "ahead"), ("ahead", "beside"),
              ("Ahead", "behind"), ("behind", None), (), (("ahead",), "behind"), {"ahead": 1, "behind": 2})


def plan_of(sets, job="", at=0, orders=BEST):
    return PartedPlan(sets, job, at, orders)


def small_parted():
    """Plans of one or two versions with all orders, and some with three."""
    told = []
    for many, step in ((1, 1), (2, 3), (3, 171)):
        jobs = [("", 0)] + list(product(JOBS, range(many)))
        for sets, (job, at), orders in list(product(product(SETS, repeat=many), jobs, ALL_ORDERS))[::step]:
            if model.Parted(orders).firsts(sets[0]):
                told.append(PartedPlan(sets, job, at, orders))
    return told


class PlanTest(unittest.TestCase):
    def test_attributes(self):
        sets = list(COMING)
        plan = PartedPlan(sets, "fill", 1, BEST)
        sets.clear()
        self.assertEqual((plan.sets, plan.job, plan.at, plan.orders, plan.last()), (tuple(COMING), "fill", 1, BEST, 2))
        self.assertEqual(PartedPlan(orders=BEST, at=1, job="fill", sets=tuple(COMING)), plan)

    def test_equality(self):
        plan = PartedPlan(COMING, "fill", 1, BEST)
        self.assertTrue(plan == PartedPlan(COMING, "fill", 1, BEST))
        self.assertFalse(plan != PartedPlan(COMING, "fill", 1, BEST))
        for other in (PartedPlan(COMING[:2], "fill", 1, BEST), PartedPlan(COMING, "clean", 1, BEST),
                      PartedPlan(COMING, "fill", 2, BEST), PartedPlan(COMING, "fill", 1, ("ahead", "ahead")), None,
                      (tuple(COMING), "fill", 1, BEST)):
            self.assertFalse(plan == other)
        whole, parted = Plan("index", [(), ("put",)]), PartedPlan([(), ("put",)], "", 0, BEST)
        self.assertFalse(whole == parted)
        self.assertFalse(parted == whole)

    def test_first_worlds(self):
        for orders, duties in product(ALL_ORDERS, SETS):
            expected = model.Parted(orders).firsts(duties)
            if expected:
                firsts = PartedPlan([duties], "", 0, orders).firsts()
                self.assertIs(type(firsts), list)
                self.assertEqual(sorted(firsts), sorted(expected), (orders, duties))
            else:
                self.refused("first", [duties], "", 0, orders)
        self.assertEqual(sorted(plan_of([()]).firsts()), [("none", 0), ("other", 0), ("this", 0)])
        self.assertEqual(len(plan_of([("put",)]).firsts()), 6)
        self.assertEqual(sorted(plan_of([LOOKED]).firsts()), [("none", 0), ("none", 1), ("other", 0), ("other", 1),
                                                             ("this", 1)])
        self.assertEqual(len(plan_of(COMING).firsts()), 3)
        plan = plan_of([LOOKED])
        plan.firsts().clear()
        self.assertEqual(len(plan.firsts()), 5)

    def test_no_set_with_read_has_first_worlds(self):
        for orders, duties in product(ALL_ORDERS, SETS):
            if "read" in duties:
                self.refused("first", [duties], "", 0, orders)

    def test_who_looks_needs_the_right_orders(self):
        for orders in ALL_ORDERS:
            if orders == BEST:
                self.assertTrue(PartedPlan([LOOKED], "", 0, orders).firsts())
            else:
                self.refused("first", [LOOKED], "", 0, orders)
        # Without dropping there may be entries everywhere, and none can lack.
        for orders in ALL_ORDERS:
            self.assertEqual(sorted(PartedPlan([("look",)], "", 0, orders).firsts()), [
                ("none", 1), ("other", 1), ("this", 1)])
        for orders in ALL_ORDERS:
            self.assertEqual(("none", 0) in PartedPlan([("look", "put")], "", 0, orders).firsts(), orders[0] == "ahead")

    def refused(self, part, *told):
        with self.assertRaises(BadPlan) as caught:
            PartedPlan(*told)
        self.assertEqual(caught.exception.part, part, told)

    def test_refused(self):
        for orders in BAD_ORDERS:
            self.refused("orders", None, None, None, orders)
        for sets in (None, (), [], [()] * 41, [["put"]], [("put", "drop")], [("put", "put")], [("check",)], "put",
                     [None],
                     [(), ("look", "drop")], {(): 1}):
            self.refused("sets", sets, None, None, BEST)
        for job in (None, "copy", "Fill", 0, [], "look"):
            self.refused("job", COMING, job, None, BEST)
        for at in (-1, 3, None, True, False, "1", 1.0):
            self.refused("at", COMING, "fill", at, BEST)
        for at in (1, -1, None, False):
            self.refused("at", COMING, "", at, BEST)
        self.refused("first", [("read",), ()], "fill", 1, BEST)

    def test_as_many_versions_as_there_may_be(self):
        self.assertEqual(PartedPlan([()] * 40, "fill", 39, BEST).last(), 39)


class DeedsTest(unittest.TestCase):
    """Deeds as moves of a plan of one version with a set of duties."""

    def expect(self, orders, duties, world, deed, behind, fault=""):
        plan = PartedPlan([(), duties], "", 0, orders)
        if world[1] == 1:
            # Where no server has ever put it, there is no entry.
            plan = PartedPlan([("put",), duties], "", 0, orders)
        standing, told = moved(plan, 1, world, [("tell",), ("leave",), ("deed", 1, deed)])
        self.assertEqual((standing[3], told), (behind, fault), (orders, duties, world, deed))

    def test_whole_deeds(self):
        for orders in ALL_ORDERS:
            self.expect(orders, ("put",), ("none", 0), "this", ("this", 1))
            self.expect(orders, ("drop",), ("this", 1), "other", ("other", 0))
            self.expect(orders, ("drop",), ("this", 1), "none", ("none", 0))
            self.expect(orders, ("put",), ("this", 1), "none", ("none", 1))
            self.expect(orders, ("drop",), ("other", 0), "this", ("this", 0))
            self.expect(orders, ("drop", "put"), ("other", 1), "none", ("none", 1))

    def test_fallen_deeds(self):
        for other in ("ahead", "behind"):
            self.expect(("ahead", other), ("drop", "put"), ("none", 0), "this fallen", ("none", 1))
            self.expect(("behind", other), ("drop", "put"), ("none", 0), "this fallen", ("this", 0))
            self.expect((other, "ahead"), ("drop", "put"), ("this", 1), "other fallen", ("this", 0))
            self.expect((other, "behind"), ("drop", "put"), ("this", 1), "other fallen", ("other", 1))
            self.expect((other, "ahead"), ("drop",), ("this", 1), "none fallen", ("this", 0))
            self.expect((other, "behind"), ("drop",), ("this", 0), "none fallen", ("none", 0))

    def test_deeds_that_cannot_fall(self):
        for duties, world, word in ((("drop",), ("none", 0), "this"), (("put",), ("this", 0), "none"),
                                    (("drop", "put"), ("other", 0), "none"), ((), ("this", 0), "other"),
                                    (("look", "read"), ("none", 0), "this")):
            for orders in ALL_ORDERS:
                plan = PartedPlan([(), duties], "", 0, orders)
                ahead = [("tell",), ("leave",)]
                moved(plan, 1, world, ahead + [("deed", 1, word)])
                for deed in (word + " fallen", "read fallen", world[0], world[0] + " fallen"):
                    with self.assertRaises(BadMove) as caught:
                        moved(plan, 1, world, ahead + [("deed", 1, deed)])
                    self.assertEqual(caught.exception.number, 2)

    def test_readings(self):
        for duties in (("look",), ("read",), ("look", "read")):
            for orders in ALL_ORDERS:
                self.expect(orders, duties, ("this", 0), "read", ("this", 0), "missing")
                self.expect(orders, duties, ("this", 1), "read", ("this", 1))
                self.expect(orders, duties, ("none", 0), "read", ("none", 0))
                for row in ("none", "other"):
                    ghost = "ghost" if "read" in duties else ""
                    self.expect(orders, duties, (row, 1), "read", (row, 1), ghost)
        with self.assertRaises(BadMove):
            moved(plan_of([("drop", "put")]), 1, ("this", 0), [("deed", 0, "read")])

    def test_all_deeds(self):
        for orders, duties in product(ALL_ORDERS, SETS):
            kind = model.Parted(orders)
            for world in kind.worlds():
                plan = PartedPlan([("put",), duties], "", 0, orders)
                for deed, behind, fault in kind.deeds(world, duties):
                    self.assertEqual(moved(plan, 1, world, [("tell",), ("leave",), ("deed", 1, deed)]),
                                     ((1, 1, "none", behind), fault))


class JudgeTest(unittest.TestCase):
    def test_against_the_model(self):
        told = {True: 0, False: 0}
        for plan in small_parted():
            paper = judge(plan, 1)
            self.assertIs(paper.shows(plan, 1), True)
            number, met = model.fewest(plan, 1)
            self.assertIs(bool(paper), number is None, (plan.sets, plan.job, plan.at, plan.orders))
            if paper:
                self.assertEqual(set(paper.table), met)
            else:
                self.assertEqual(len(paper.moves), number)
            told[bool(paper)] += 1
        self.assertGreater(min(told.values()), 300, told)

    def test_papers_with_one_thing_changed(self):
        plan = PartedPlan(COMING, "fill", 1, BEST)
        paper = judge(plan, 1)
        self.assertIs(paper.shows(plan, 1), True)
        for number in range(len(paper.table)):
            table = list(paper.table)
            del table[number]
            self.assertIs(Safe(table).shows(plan, 1), False)
        self.assertIs(Safe(paper.table + ((0, 0, "before", ("bare", 0)),)).shows(plan, 1), False)
        for orders in ALL_ORDERS[:1] + ALL_ORDERS[2:]:
            # Not all have first worlds for the last set, but all have some for the first one.
            self.assertIs(paper.shows(PartedPlan(COMING, "fill", 1, orders), 1), False)

    def test_a_wrong(self):
        plan = PartedPlan([(), LOOKED], "fill", 0, BEST)
        paper = judge(plan, 1)
        self.assertIs(type(paper), Wrong)
        # An entry lacks when all is through: that is less to do than to read it.
        self.assertEqual(moved(plan, 1, paper.world, paper.moves), ((1, 1, "ended", ("this", 0)), ""))
        self.assertIs(Wrong(paper.world, paper.moves + (("deed", 1, "read"),)).shows(plan, 1), True)
        self.assertIs(Wrong(paper.world, paper.moves[:-1]).shows(plan, 1), False)
        self.assertIs(Wrong(("this", 1), paper.moves).shows(plan, 1), False)
        fallen = [("tell",), ("leave",), ("deed", 1, "none fallen"), ("deed", 1, "read")]
        for orders in ALL_ORDERS:
            plan = PartedPlan([(), ("drop", "read"), ()], "", 0, orders)
            self.assertIs(Wrong(("this", 0), fallen).shows(plan, 1), orders[1] == "ahead")

    def test_bad_lag(self):
        plan = PartedPlan(COMING, "fill", 1, BEST)
        for lag in BAD_LAGS:
            for called in (lambda: judge(plan, lag), lambda: Safe(()).shows(plan, lag),
                           lambda: Wrong(None, ()).shows(plan, lag), lambda: moved(plan, lag, ("this", 0), ())):
                with self.assertRaises(BadLag):
                    called()

    def test_the_longest_ones_can_be_judged(self):
        plan = PartedPlan([("drop", "put")] * 40, "fill", 20, BEST)
        self.assertIs(bool(judge(plan, 20)), True)


class OrdersTest(unittest.TestCase):
    def test_the_example(self):
        told = judge_orders(COMING, "fill", 1, 1)
        self.assertEqual(told.safe(), (BEST,))
        self.assertEqual(sorted(told.papers), ALL_ORDERS)
        self.assertIs(told.shows(COMING, "fill", 1, 1), True)
        self.assertEqual(told, OrdersTold({orders: judge(PartedPlan(COMING, "fill", 1, orders),
                                                         1) for orders in ALL_ORDERS}))

    def test_without_first_worlds(self):
        told = judge_orders([LOOKED, ()], "empty", 1, 1)
        self.assertEqual([orders for orders in ALL_ORDERS if told.papers[orders] is None],
                         [orders for orders in ALL_ORDERS if orders != BEST])
        self.assertEqual(told.safe(), ())
        self.assertIs(told.shows([LOOKED, ()], "empty", 1, 1), True)
        told = judge_orders([("read",)], "", 0, 1)
        self.assertEqual(told, OrdersTold({orders: None for orders in ALL_ORDERS}))
        self.assertEqual(told.safe(), ())
        self.assertIs(told.shows([("read",)], "", 0, 1), True)

    def test_many(self):
        safe = {}
        unread = [duties for duties in SETS if "read" not in duties]
        for sets in [*product(unread, repeat=2), *product(SETS[::4], repeat=2), COMING]:
            for job, at in (("", 0), ("rebuild", 0), ("fill", 1), ("clean", 1), ("empty", 1)):
                told = judge_orders(list(sets), job, at, 1)
                self.assertIs(told.shows(sets, job, at, 1), True)
                expected = []
                for orders in ALL_ORDERS:
                    if not model.Parted(orders).firsts(sets[0]):
                        self.assertIsNone(told.papers[orders])
                    elif model.fewest(PartedPlan(sets, job, at, orders), 1)[0] is None:
                        expected.append(orders)
                self.assertEqual(told.safe(), tuple(expected))
                safe[told.safe()] = safe.get(told.safe(), 0) + 1
        self.assertGreaterEqual(len(safe), 4, safe)

    def test_attributes_and_equality(self):
        papers = dict(judge_orders(COMING, "fill", 1, 1).papers)
        told = OrdersTold(papers)
        given = dict(papers)
        papers.clear()
        self.assertEqual(told.papers, given)
        self.assertTrue(told == OrdersTold(given))
        for other in (OrdersTold({**given, BEST: None}), OrdersTold({}), given, None):
            self.assertFalse(told == other)

    def test_papers_with_one_thing_changed(self):
        for sets, job, at in ((COMING, "fill", 1), ([LOOKED, ("drop", "put"), ()], "empty", 2)):
            given = judge_orders(sets, job, at, 1).papers
            self.assertIs(OrdersTold(given).shows(sets, job, at, 1), True)
            for orders in ALL_ORDERS:
                for paper in (None, Safe(()), Wrong(("this", 0), ()), 7, "", *given.values()):
                    if paper != given[orders] and not (isinstance(paper, Wrong) and isinstance(given[orders], Wrong)):
                        bent = {**given, orders: paper}
                        self.assertIs(OrdersTold(bent).shows(sets, job, at, 1), False, (orders, paper))
                fewer = {other: given[other] for other in given if other != orders}
                self.assertIs(OrdersTold(fewer).shows(sets, job, at, 1), False)
                self.assertIs(OrdersTold({**fewer, ("ahead", "beside"): given[orders]}).shows(sets, job, at, 1), False)
            self.assertIs(OrdersTold({**given, "ahead": None}).shows(sets, job, at, 1), False)
        self.assertIs(judge_orders(COMING, "fill", 1, 1).shows(COMING, "fill", 2, 1), False)
        hasty = [(), (), LOOKED]
        self.assertIs(judge_orders(hasty, "", 0, 1).shows(hasty, "", 0, 1), True)
        self.assertIs(judge_orders(hasty, "", 0, 2).shows(hasty, "", 0, 2), True)
        self.assertIs(judge_orders(hasty, "", 0, 2).shows(hasty, "", 0, 1), False)

    def test_refused(self):
        told = OrdersTold({})
        for called in (judge_orders, told.shows):
            for part, bad in (("sets", (None, None, None)), ("sets", ([("check",)], "fill", 0)),
                              ("job", (COMING, "copy", 9)),
                              ("at", (COMING, "fill", 3)), ("at", (COMING, "", 1)), ("at", (COMING, "fill", True))):
                with self.assertRaises(BadPlan) as caught:
                    called(*bad, None)
                self.assertEqual(caught.exception.part, part)
            for lag in BAD_LAGS:
                for sets in (COMING, [("read",)]):
                    with self.assertRaises(BadLag) as caught:
                        called(sets, "", 0, lag)
                    self.assertIs(caught.exception.lag, lag)


def all_parted(first, last, most, orders):
    """All plans from one set to another, put into the order of [13] another way."""
    told = []
    for many in range(1, most + 1):
        if many > 1 or first == last:
            for between in product(SETS, repeat=max(0, many - 2)):
                sets = (first,) if many == 1 else (first, *between, last)
                told += [(many, job, at, sets) for job, at in [("", 0)] + list(product(JOBS, range(many)))]
    return [PartedPlan(sets, job, at, orders) for _, job, at, sets in sorted(told)]


class ShortestTest(unittest.TestCase):
    def check(self, first, last, lag, most, orders):
        told = shortest_parted(first, last, lag, most, orders)
        self.assertIs(type(told), ShortestParted)
        self.assertIs(told.shows(first, last, lag, most, orders), True)
        ahead = []
        for plan in all_parted(first, last, most, orders):
            if model.fewest(plan, lag)[0] is None:
                self.assertEqual(told.plan, plan)
                self.assertIs(told.paper.shows(plan, lag), True)
                break
            ahead.append((plan.sets, plan.job, plan.at))
        else:
            self.assertEqual((told.plan, told.paper), (None, None))
        self.assertIs(bool(told), told.plan is not None)
        self.assertEqual(list(told.against), ahead)
        for sets, job, at in ahead:
            self.assertIs(type(told.against[sets, job, at]), Wrong)
        return told

    def test_the_example(self):
        told = self.check((), LOOKED, 1, 3, BEST)
        self.assertEqual((told.plan.sets, told.plan.job, told.plan.at), (tuple(COMING), "fill", 1))
        self.assertFalse(self.check((), ("drop", "put", "read"), 1, 3, BEST))

    def test_other_orders(self):
        for orders in ALL_ORDERS:
            self.assertIs(bool(self.check((), LOOKED, 1, 3, orders)), orders == BEST)

    def test_other_ends(self):
        for first, last, most in (((), (), 3), (LOOKED, (), 3), (LOOKED, LOOKED, 1), ((), (), 1), ((), ("put",), 1),
                                  (("put",), (), 2), ((), ("drop",), 2), ((), ("look", "put"), 3)):
            self.check(first, last, 1, most, BEST)
        self.assertEqual(shortest_parted((), (), 1, 3, BEST).plan, PartedPlan([()], "", 0, BEST))
        # None of no plans is safe.
        told = shortest_parted((), ("put",), 1, 1, BEST)
        self.assertEqual(told, ShortestParted(None, None, {}))

    def test_a_greater_lag(self):
        self.assertEqual(self.check((), LOOKED, 2, 3, BEST).plan, self.check((), LOOKED, 1, 3, BEST).plan)
        self.check(LOOKED, (), 3, 3, BEST)

    def test_attributes_and_equality(self):
        told = shortest_parted((), LOOKED, 1, 3, BEST)
        against = dict(told.against)
        again = ShortestParted(told.plan, told.paper, against)
        against.clear()
        self.assertEqual(again.against, told.against)
        self.assertTrue(told == again)
        for other in (ShortestParted(None, told.paper, told.against), ShortestParted(told.plan, None, told.against),
                      ShortestParted(told.plan, told.paper, {}), None, told.plan):
            self.assertFalse(told == other)
        self.assertIs(bool(ShortestParted(None, None, {})), False)
        self.assertIs(bool(ShortestParted(told.plan, None, {})), True)

    def test_papers_with_one_thing_changed(self):
        asked = ((), LOOKED, 1, 3, BEST)
        told = shortest_parted(*asked)
        plan, paper, against = told.plan, told.paper, told.against

        def expect(*parts):
            self.assertIs(ShortestParted(*parts).shows(*asked), False)

        expect(None, None, against)
        expect(None, paper, against)
        expect(plan, None, against)
        expect(plan, Safe(paper.table[1:]), against)
        expect(plan, Wrong(("this", 0), ()), against)
        expect(PartedPlan(plan.sets, plan.job, 2, BEST), paper, against)
        expect(PartedPlan(plan.sets, plan.job, plan.at, ("ahead", "ahead")), paper, against)
        expect(Plan("index", [(), ("drop", "put"), ("drop", "put", "read")], "fill", 1), paper, against)
        triple = list(against)[7]
        expect(plan, paper, {key: against[key] for key in against if key != triple})
        expect(plan, paper, {**against, (plan.sets, plan.job, plan.at): paper})
        expect(plan, paper, {**against, triple: paper})
        expect(plan, paper, {**against, triple: None})
        expect(plan, paper, {**against, triple: Wrong(("this", 0), ())})
        fewer = {key: against[key] for key in against if key != ((((), LOOKED), "clean", 1))}
        expect(plan, paper, {**fewer, (((), LOOKED), "clean", True): against[((), LOOKED), "clean", 1]})
        later = shortest_parted((), LOOKED, 1, 2, BEST)
        self.assertIs(later.shows(*asked), False)
        self.assertIs(later.shows((), LOOKED, 1, 2, BEST), True)
        self.assertIs(ShortestParted(None, paper, later.against).shows((), LOOKED, 1, 2, BEST), False)
        self.assertIs(told.shows((), LOOKED, 1, 2, BEST), False)
        self.assertIs(told.shows((), ("drop", "put"), 1, 3, BEST), False)
        self.assertIs(told.shows((), LOOKED, 1, 3, ("ahead", "ahead")), False)

    def test_a_later_safe_plan_is_not_the_first_one(self):
        against = {}
        for plan in all_parted((), LOOKED, 3, BEST):
            told = judge(plan, 1)
            if told and against.get("first"):
                del against["first"]
                self.assertIs(ShortestParted(plan, told, against).shows((), LOOKED, 1, 3, BEST), False)
                return
            against["first" if told else (plan.sets, plan.job, plan.at)] = told
        self.fail("there is no second safe plan")

    def refused(self, error, attribute, value, *asked):
        for called in (shortest_parted, ShortestParted(None, None, {}).shows):
            with self.assertRaises(error) as caught:
                called(*asked)
            self.assertEqual(getattr(caught.exception, attribute), value, asked)

    def test_bad_plans(self):
        for orders in BAD_ORDERS:
            self.refused(BadPlan, "part", "orders", None, None, None, None, orders)
        for first, last in ((None, ()), ((), None), (["put"], ()), ((), ("put", "drop")), (("check",), ()), ((), 7)):
            self.refused(BadPlan, "part", "sets", first, last, None, None, BEST)
        for first in (("read",), ("drop", "look", "put", "read"), ("drop", "look")):
            self.refused(BadPlan, "part", "first", first, (), None, None, BEST)
        for most in BAD_MOSTS:
            self.refused(BadPlan, "part", "most", (), LOOKED, None, most, BEST)

    def test_too_many_plans(self):
        self.refused(TooLarge, "number", 9 + 13 * 16 + 17 * 256, (), LOOKED, None, 4, BEST)
        self.refused(TooLarge, "number", 5 + 9 + 13 * 16 + 17 * 256, (), (), None, 4, BEST)
        for most in (5, 9):
            with self.assertRaises(TooLarge) as caught:
                shortest_parted((), LOOKED, 1, most, BEST)
            expected = sum((1 + 4 * many) * 16 ** (many - 2) for many in range(2, most + 1))
            self.assertEqual(caught.exception.number, expected)
        with mock.patch.object(searching, "MOST_PLANS", 217):
            self.assertIsNotNone(shortest_parted((), LOOKED, 1, 3, BEST).plan)
        with mock.patch.object(searching, "MOST_PLANS", 216):
            self.refused(TooLarge, "number", 217, (), LOOKED, None, 3, BEST)

    def test_bad_lag(self):
        for lag in BAD_LAGS:
            self.refused(BadLag, "lag", lag, (), LOOKED, lag, 3, BEST)
        self.refused(BadLag, "lag", 0, (), LOOKED, 0, 1, BEST)


if __name__ == "__main__":
    unittest.main()

"""[13]: the first safe one of all plans."""

import unittest
from unittest import mock

from openchange import searching
from openchange.errors import BadLag, BadPlan, TooLarge
from openchange.judging import Safe, Wrong, judge
from openchange.kinds import kind_of
from openchange.plans import Plan, held
from openchange.shortest import NoPlan, Shortest, shortest
from tests import model
from tests.samples import INDEX_ADD, KEPT, WHOLE, plans_between, sets_of, triple_of
from tests.test_plans import BAD_LAGS

READ = ("put", "read")
BAD_MOSTS = (0, -1, 10, 100, True, False, None, "3", 3.0, (3,), [3], 10 ** 6000)


class ShortestTest(unittest.TestCase):
    def compare(self, kind, first, last, lag, most):
        """Compares with the first plan, in the order of all, that the model finds safe."""
        told = shortest(kind, first, last, lag, most)
        ahead = []
        for plan in plans_between(kind, first, last, most):
            if model.fewest(plan, lag)[0] is None:
                self.assertIs(type(told), Shortest)
                self.assertIs(bool(told), True)
                self.assertEqual(told.plan, plan)
                self.assertIs(type(told.paper), Safe)
                self.assertTrue(told.paper.shows(plan, lag))
                break
            ahead.append(plan)
        else:
            self.assertIs(type(told), NoPlan)
            self.assertIs(bool(told), False)
        self.assertIs(type(told.against), dict)
        self.assertEqual(list(told.against), [triple_of(plan) for plan in ahead])
        for plan in ahead:
            paper = told.against[triple_of(plan)]
            self.assertIs(type(paper), Wrong)
            self.assertIs(paper.shows(plan, lag), True)
        self.assertIs(told.shows(kind, first, last, lag, most), True)
        return told

    def test_all_of_small_kinds(self):
        found = 0
        for kind in ("column", "whole"):
            for first in sets_of(kind):
                if kind_of(kind).firsts(first):
                    for last in sets_of(kind):
                        for lag, most in ((1, 1), (1, 2), (1, 3), (1, 4), (2, 3), (20, 3)):
                            found += bool(self.compare(kind, first, last, lag, most))
        self.assertGreater(found, 20)

    def test_some_of_other_kinds(self):
        for kind, first, last, lag, most, expected in (
                ("index", (), WHOLE, 1, 3, ((), ("drop", "put"), WHOLE)),
                ("index", (), WHOLE, 1, 2, None),
                ("index", WHOLE, (), 1, 3, (WHOLE, ("drop", "put"), ())),
                ("index", ("drop",), WHOLE, 1, 4, (("drop",), ("drop", "put"), WHOLE)),
                ("reference", (), ("check", "guard", "read"), 1, 3,
                 ((), ("check", "guard"), ("check", "guard", "read"))),
                ("reference", (), ("guard", "read"), 1, 3, None),
                ("moved", ("from old", "old"), ("from new", "new"), 1, 3, (
                    ("from old", "old"), ("new", "old"), ("from new", "new"))),
                ("moved", ("from old", "old"), ("from new", "new"), 1, 2, None),
                ("unique", (), ("drop", "put"), 1, 3, ((), ("drop", "put"))),
                ("unique", (), KEPT, 1, 3, None),
                ("unique", KEPT, ("check", "drop", "put"), 1, 3, (KEPT, ("check", "drop", "put")))):
            told = self.compare(kind, first, last, lag, most)
            self.assertEqual(told.plan.sets if told else None, expected, (kind, first, last))

    def test_an_index_can_come_in_one_version_less_than_by_filling(self):
        told = shortest("index", (), WHOLE, 1, 4)
        self.assertEqual(triple_of(told.plan), (((), ("drop", "put"), WHOLE), "rebuild", 1))
        self.assertEqual(len(told.against), 99)

    def test_one_version_where_both_sets_are_the_same(self):
        for kind, duties in (("index", ()), ("index", WHOLE), ("unique", KEPT), ("column", READ)):
            for most in (1, 2, 3):
                told = shortest(kind, duties, duties, 1, most)
                self.assertEqual(told, Shortest(Plan(kind, [duties]), judge(Plan(kind, [duties]), 1), {}))
                self.assertIs(told.shows(kind, duties, duties, 1, most), True)

    def test_no_plan_at_all(self):
        told = shortest("index", (), WHOLE, 1, 1)
        self.assertEqual(told, NoPlan({}))
        self.assertIs(told.shows("index", (), WHOLE, 1, 1), True)
        self.assertIs(told.shows("index", (), (), 1, 1), False)
        self.assertIs(told.shows("index", (), WHOLE, 1, 2), False)

    def test_held_plans_for_greater_lags(self):
        plan = shortest("column", (), READ, 1, 3).plan
        for lag in (2, 3):
            self.assertTrue(judge(held(plan, lag), lag))
        found = shortest("column", READ, (), 2, 4).plan
        self.assertEqual(found.sets, held(shortest("column", READ, (), 1, 3).plan, 2).sets)

    def test_every_dict_is_new(self):
        one, two = shortest("column", (), READ, 1, 3), shortest("column", (), READ, 1, 3)
        one.against.clear()
        self.assertTrue(two.against)


class RefusedTest(unittest.TestCase):
    def asked(self, *arguments):
        papers = (Shortest(INDEX_ADD, judge(INDEX_ADD, 1), {}), NoPlan({}))
        return [lambda: shortest(*arguments)] + [lambda paper=paper: paper.shows(*arguments) for paper in papers]

    def bad(self, error, expected, *arguments):
        for ask in self.asked(*arguments):
            with self.assertRaises(error, msg=arguments[:3]) as caught:
                ask()
            self.assertEqual(vars(caught.exception), expected, arguments[:3])

    def test_bad_plans(self):
        self.bad(BadPlan, {"part": "kind"}, "no", [()], (), 0, 0)
        self.bad(BadPlan, {"part": "kind"}, None, (), (), 1, 2)
        for first, last in ((["put"], ()), ((), ["put"]), (("put", "drop"), ()), ((), ("check",)), (None, ()),
                            ((), "")):
            self.bad(BadPlan, {"part": "sets"}, "index", first, last, 0, 0)
        self.bad(BadPlan, {"part": "first"}, "index", ("read",), (), 0, 0)
        self.bad(BadPlan, {"part": "first"}, "index", ("read",), ("read",), 1, 2)

    def test_bad_lags(self):
        for lag in BAD_LAGS:
            self.bad(BadLag, {"lag": lag}, "index", (), WHOLE, lag, 0)

    def test_bad_mosts(self):
        for most in BAD_MOSTS:
            self.bad(BadPlan, {"part": "most"}, "index", (), WHOLE, 1, most)

    def test_too_large(self):
        for kind, first, last, most, number in (
                ("column", (), READ, 6, 4209), ("column", (), (), 6, 4212), ("index", (), WHOLE, 5, 11953),
                ("index", WHOLE, WHOLE, 5, 11958), ("moved", (), ("old",), 4, 2421), ("unique", (), (), 4, 2424),
                ("reference", (), (), 5, 6272), ("whole", (), READ, 9, 19 * 4 ** 7 + 17 * 4 ** 6 + 15 * 4 ** 5 + 4209)):
            self.bad(TooLarge, {"number": number}, kind, first, last, 1, most)
            self.assertEqual(len(plans_between(kind, first, last, 4)) > 2000, kind in ("moved", "unique"))

    def test_what_is_not_too_large(self):
        self.assertEqual(len(shortest("index", (), ("read",), 1, 4).against), 1201)
        self.assertEqual(len(shortest("column", (), ("read",), 1, 5).against), 881)
        self.assertEqual(len(shortest("moved", ("from old", "old"), ("from new",), 1, 3).against), 117)

    def test_just_at_the_bound(self):
        for number, is_too_large in ((117, False), (116, True)):
            with mock.patch.object(searching, "MOST_PLANS", number):
                if is_too_large:
                    self.bad(TooLarge, {"number": 117}, "unique", (), KEPT, 1, 3)
                else:
                    self.assertIs(shortest("unique", (), KEPT, 1, 3).shows("unique", (), KEPT, 1, 3), True)

    def test_the_greatest_most(self):
        # The least numbers of plans with as many versions are above the bound.
        self.bad(TooLarge, {"number": 19 * 4 ** 7 + 17 * 4 ** 6 + 15 * 4 ** 5 + 4212}, "column", (), (), 1, 9)
        with mock.patch.object(searching, "MOST_PLANS", 10 ** 6):
            told = shortest("column", (), (), 1, 9)
            self.assertEqual((told.plan.sets, told.against), (((),), {}))
            self.assertIs(told.shows("column", (), (), 1, 9), True)


class PapersTest(unittest.TestCase):
    def test_attributes_and_equality(self):
        plan, paper, against = INDEX_ADD, judge(INDEX_ADD, 1), {((), "", 0): Wrong("none", [])}
        told = Shortest(plan, paper, against)
        self.assertEqual((told.plan, told.paper, told.against), (plan, paper, against))
        self.assertTrue(told == Shortest(plan, paper, dict(against)))
        self.assertFalse(told != Shortest(plan, paper, dict(against)))
        for other in (Shortest(Plan("index", [()]), paper, against), Shortest(plan, Safe([]), against),
                      Shortest(plan, paper, {}), NoPlan(against), None, True, (plan, paper, against)):
            self.assertFalse(told == other)
        self.assertTrue(NoPlan(against) == NoPlan(dict(against)))
        for other in (NoPlan({}), told, against, False, None):
            self.assertFalse(NoPlan(against) == other)
        self.assertEqual((bool(Shortest(plan, paper, {})), bool(NoPlan({}))), (True, False))

    def test_dicts_are_not_kept(self):
        against = {((), "", 0): Wrong("none", [])}
        papers = (Shortest(INDEX_ADD, Safe([]), against), NoPlan(against))
        against.clear()
        for paper in papers:
            self.assertEqual(len(paper.against), 1)

    def changed(self, against):
        """Dicts with one thing changed, whatever it is."""
        yield {**against, (((), ()), "no", 0): Wrong("none", [])}
        yield {**against, (((), ("no",)), "", 0): Wrong("none", [])}
        for at, triple in enumerate(against):
            others = {key: against[key] for key in against if key != triple}
            yield others
            if at < 12:
                sets, job, place = triple
                for key in ((sets, job, place + 1), (sets, job, bool(place)), (sets, "no", place),
                            (sets[:-1], job, place),
                            (sets[:-1] + (("no",),), job, place), (sets + ((),) * 9, job, place)):
                    yield {**others, key: against[triple]}
                for paper in (Wrong(against[triple].world, against[triple].moves[:-1]),
                              Wrong("no", against[triple].moves),
                              Wrong(against[triple].world, (("no",),)), Safe([]), None):
                    yield {**against, triple: paper}

    def test_against_with_one_thing_changed(self):
        told = shortest("column", (), READ, 1, 3)
        for against in self.changed(told.against):
            self.assertIs(Shortest(told.plan, told.paper, against).shows("column", (), READ, 1, 3), False)
        told = shortest("reference", (), ("check", "read"), 1, 2)
        self.assertIs(told.shows("reference", (), ("check", "read"), 1, 2), True)
        for against in self.changed(told.against):
            self.assertIs(NoPlan(against).shows("reference", (), ("check", "read"), 1, 2), False)

    def test_the_order_of_the_dict_does_not_matter(self):
        told = shortest("column", (), READ, 1, 3)
        against = {triple: told.against[triple] for triple in reversed(list(told.against))}
        self.assertIs(Shortest(told.plan, told.paper, against).shows("column", (), READ, 1, 3), True)
        self.assertEqual(Shortest(told.plan, told.paper, against), told)

    def test_other_plans_and_papers(self):
        told = shortest("column", (), READ, 1, 3)
        asked = ("column", (), READ, 1, 3)
        for at in range(len(told.paper.table)):
            paper = Safe(told.paper.table[:at] + told.paper.table[at + 1:])
            self.assertIs(Shortest(told.plan, paper, told.against).shows(*asked), False)
        for paper in (Wrong("none", []), None):
            self.assertIs(Shortest(told.plan, paper, told.against).shows(*asked), False)
        safe = [plan for plan in plans_between("column", (), READ, 4) if model.fewest(plan, 1)[0] is None]
        self.assertGreater(len(safe), 3)
        for plan in safe[1:]:
            self.assertIs(Shortest(plan, judge(plan, 1), told.against).shows(*asked), False)
        whole = Plan("whole", told.plan.sets, told.plan.job, told.plan.at)
        self.assertIs(Shortest(whole, judge(whole, 1), told.against).shows(*asked), False)
        self.assertIs(Shortest(None, told.paper, told.against).shows(*asked), False)

    def test_a_later_plan_with_all_but_the_first_safe_one_against_it(self):
        told = shortest("column", (), READ, 1, 4)
        plans = plans_between("column", (), READ, 4)
        later = [plan for plan in plans[plans.index(told.plan) + 1:] if judge(plan, 1)][0]
        ahead = plans[:plans.index(later)]
        against = {triple_of(plan): judge(plan, 1) for plan in ahead}
        self.assertIs(Shortest(later, judge(later, 1), against).shows("column", (), READ, 1, 4), False)
        del against[triple_of(told.plan)]
        self.assertIs(Shortest(later, judge(later, 1), against).shows("column", (), READ, 1, 4), False)

    def test_other_questions(self):
        told = shortest("column", (), READ, 1, 3)
        for most, expected in ((2, False), (3, True), (4, True), (5, True), (1, False)):
            self.assertIs(told.shows("column", (), READ, 1, most), expected)
        for asked in (("whole", (), READ, 1, 3), ("column", ("put",), READ, 1, 3), ("column", (), ("put",), 1, 3),
                      ("column", READ, (), 1, 3), ("index", (), WHOLE, 1, 3)):
            self.assertIs(told.shows(*asked), False)
        told = shortest("index", (), WHOLE, 1, 3)
        self.assertIs(told.shows("index", (), WHOLE, 2, 3), True)
        told = shortest("index", WHOLE, (), 1, 3)
        self.assertIs(told.shows("index", WHOLE, (), 1, 3), True)
        self.assertIs(told.shows("index", WHOLE, (), 2, 3), False)
        told = shortest("index", (), WHOLE, 1, 2)
        self.assertIs(told.shows("index", (), WHOLE, 20, 2), True)
        self.assertIs(told.shows("index", (), WHOLE, 1, 3), False)


if __name__ == "__main__":
    unittest.main()

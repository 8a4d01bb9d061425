"""[19]: needless duties."""

import unittest

from openchange.errors import BadLag, BadSpare, TooLarge
from openchange.judging import Safe, Wrong, judge
from openchange.plans import Plan
from openchange.sparing import Spares, is_leanest, leanest, spares
from tests import model
from tests.samples import COLUMN_ADD, HASTY, INDEX_ADD, KEPT, SAFE_PLANS, WHOLE, WRONG_PLANS, small_plans
from tests.test_plans import BAD_LAGS

FULL = Plan("index", [(), WHOLE[:2], WHOLE[:2], WHOLE], "rebuild", 2)


def without(plan, version, duty):
    sets = list(plan.sets)
    sets[version] = tuple(other for other in sets[version] if other != duty)
    return Plan(plan.kind, sets, plan.job, plan.at)


def pairs_of(plan):
    return [(version, duty) for version in range(1, len(plan.sets) - 1) for duty in plan.sets[version]]


def is_safe(plan, lag):
    return model.fewest(plan, lag)[0] is None


def safe_plans():
    """Safe plans with versions between the first and the last one, and lags."""
    told = [(plan, 1) for plan in SAFE_PLANS] + [(FULL, 1), (FULL, 2), (COLUMN_ADD, 3)]
    for number, plan in enumerate(small_plans()):
        lag = 1 + number % 2
        if len(plan.sets) > 2 and plan.kind != "unique" and judge(plan, lag):
            told.append((plan, lag))
    told.append((Plan("index", [(), WHOLE[:2], WHOLE[:2], ("drop",), WHOLE[:2], WHOLE[1:2], ()], "empty", 6), 1))
    told.append((Plan("moved", [("from old", "old")] + [("from old", "new", "old")] * 3 + [("from old", "old")]), 2))
    return [(plan, lag) for plan, lag in told if judge(plan, lag)]


class SparesTest(unittest.TestCase):
    def test_the_model_tells_the_same(self):
        spared = needed = 0
        for plan, lag in safe_plans():
            told = spares(plan, lag)
            self.assertIs(type(told), Spares)
            expected = [pair for pair in pairs_of(plan) if is_safe(without(plan, *pair), lag)]
            self.assertEqual(sorted(told.spare), expected)
            self.assertEqual(sorted(list(told.spare) + list(told.needed)), pairs_of(plan))
            for pair, paper in told.spare.items():
                self.assertIs(type(paper), Safe)
                self.assertTrue(paper.shows(without(plan, *pair), lag))
            for pair, paper in told.needed.items():
                self.assertIs(type(paper), Wrong)
                self.assertTrue(paper.shows(without(plan, *pair), lag))
            self.assertIs(told.shows(plan, lag), True)
            spared += len(told.spare)
            needed += len(told.needed)
        self.assertGreater(spared, 20)
        self.assertGreater(needed, 20)

    def test_a_version_alone_lacks_the_duty(self):
        told = spares(FULL, 1)
        self.assertEqual((list(told.spare), list(told.needed)),
                         ([(1, "drop"), (1, "put")], [(2, "drop"), (2, "put")]))
        self.assertIs(told.spare[(1, "put")].shows(Plan("index", [(), ("drop",), WHOLE[:2], WHOLE], "rebuild", 2), 1),
                      True)

    def test_neither_the_first_nor_the_last_version(self):
        for plan in (Plan("index", [WHOLE]), Plan("index", [WHOLE, WHOLE]), Plan("index", [WHOLE, (), ()], "empty", 2)):
            if judge(plan, 1):
                self.assertEqual(spares(plan, 1), Spares({}, {}))
        self.assertEqual(spares(Plan("index", [WHOLE, WHOLE]), 1), Spares({}, {}))

    def test_attributes_and_equality(self):
        spare, needed = {(1, "put"): Safe([])}, {(1, "drop"): Wrong("none", [])}
        told = Spares(spare, needed)
        self.assertEqual((told.spare, told.needed), (spare, needed))
        spare.clear()
        needed.clear()
        self.assertEqual((len(told.spare), len(told.needed)), (1, 1))
        self.assertTrue(told == Spares({(1, "put"): Safe([])}, {(1, "drop"): Wrong("none", [])}))
        for other in (Spares({}, told.needed), Spares(told.spare, {}), Spares(told.needed, told.spare), None,
                      told.spare):
            self.assertFalse(told == other)

    def test_one_thing_changed(self):
        for plan in (FULL, INDEX_ADD, COLUMN_ADD):
            told = spares(plan, 1)
            for spare, needed in self.changed(told.spare, told.needed):
                self.assertIs(Spares(spare, needed).shows(plan, 1), False)

    def changed(self, spare, needed):
        yield {**spare, (0, "put"): judge(INDEX_ADD, 1)}, needed
        yield spare, {**needed, (3, "put"): judge(HASTY, 1)}
        yield needed, spare
        for dicts in ((spare, needed), (needed, spare)):
            told, others = dicts
            for pair in told:
                version, duty = pair
                less = {other: told[other] for other in told if other != pair}
                paper = told[pair]
                papers = [Safe([]), Wrong("none", []), None]
                papers.append(Safe(paper.table[:-1]) if paper else Wrong(paper.world, paper.moves[:-1]))
                changed = [less, {**less, (version + 7, duty): told[pair]}, {**less, (version, "no"): told[pair]},
                           {**less, (float(version), duty): told[pair]}, {**less, "no": told[pair]}]
                if version == 1:
                    changed.append({**less, (True, duty): told[pair]})
                changed += [{**told, pair: paper} for paper in papers]
                for one in changed:
                    yield (one, others) if told is spare else (others, one)
                both = {**others, pair: told[pair]}
                yield (less, both) if told is spare else (both, less)
                yield (told, both) if told is spare else (both, told)

    def test_other_plans(self):
        told = spares(FULL, 1)
        self.assertIs(told.shows(INDEX_ADD, 1), False)
        self.assertIs(told.shows(Plan("index", FULL.sets[:1] + FULL.sets[2:], "rebuild", 1), 1), False)
        self.assertIs(Spares({}, {}).shows(FULL, 1), False)
        self.assertIs(Spares({}, {}).shows(Plan("index", [()]), 1), True)


class LeanestTest(unittest.TestCase):
    def test_the_model_tells_the_same(self):
        lean = 0
        for plan, lag in safe_plans():
            expected = plan
            for pair in pairs_of(plan):
                if is_safe(without(expected, *pair), lag):
                    expected = without(expected, *pair)
            self.assertEqual(leanest(plan, lag), expected)
            self.assertIs(is_leanest(plan, lag), not any(is_safe(without(plan, *pair), lag) for pair in pairs_of(plan)))
            lean += is_leanest(plan, lag)
        self.assertTrue(0 < lean < len(safe_plans()))

    def test_one_duty_behind_the_other(self):
        self.assertEqual(leanest(FULL, 1), Plan("index", [(), (), WHOLE[:2], WHOLE], "rebuild", 2))
        self.assertEqual((is_leanest(FULL, 1), is_leanest(leanest(FULL, 1), 1)), (False, True))
        self.assertEqual(leanest(INDEX_ADD, 1), INDEX_ADD)
        self.assertIs(is_leanest(INDEX_ADD, 1), True)

    def test_a_duty_that_can_go_only_if_another_one_stays(self):
        told = []
        for plan, lag in safe_plans():
            spare = sorted(spares(plan, lag).spare)
            gone = [pair for pair in pairs_of(plan) if pair[1] not in leanest(plan, lag).sets[pair[0]]]
            told.append(gone == spare)
        self.assertEqual(set(told), {True, False})

    def test_the_plan_is_not_changed(self):
        leanest(FULL, 1)
        spares(FULL, 1)
        self.assertEqual(FULL.sets, ((), WHOLE[:2], WHOLE[:2], WHOLE))

    def test_a_plan_that_is_not_safe_is_not_leanest(self):
        for plan in WRONG_PLANS:
            self.assertIs(is_leanest(plan, 1), False)
        self.assertIs(is_leanest(INDEX_ADD, 2), False)


class RefusedTest(unittest.TestCase):
    def test_bad_lag(self):
        for lag in BAD_LAGS:
            for ask in (spares, leanest, is_leanest, Spares({}, {}).shows):
                with self.assertRaises(BadLag) as caught:
                    ask(HASTY, lag)
                self.assertIs(caught.exception.lag, lag)

    def test_too_large(self):
        for ask in (spares, leanest, is_leanest, Spares({}, {}).shows):
            with self.assertRaises(TooLarge) as caught:
                ask(Plan("unique", [KEPT] * 31, "fill", 0), 2)
            self.assertEqual(caught.exception.number, 100440)

    def test_plans_that_are_not_safe(self):
        for plan, lag in [(plan, 1) for plan in WRONG_PLANS] + [(INDEX_ADD, 2)]:
            for ask in (spares, leanest, Spares({}, {}).shows):
                with self.assertRaises(BadSpare) as caught:
                    ask(plan, lag)
                self.assertIs(type(caught.exception.told), Wrong)
                self.assertIs(caught.exception.told.shows(plan, lag), True)


if __name__ == "__main__":
    unittest.main()

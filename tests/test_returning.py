"""[16], [17], [18]: going back."""

import unittest
from unittest import mock

from openchange import searching
from openchange.errors import BadBack, BadLag, BadPlan, BadVersion, TooLarge
from openchange.judging import moved
from openchange.kinds import kind_of
from openchange.plans import Plan
from openchange.returning import CannotReturn, CanReturn, judge_back, shortest_back, worlds_at
from tests import model
from tests.samples import (COLUMN_ADD, GUARDED, HASTY, INDEX_ADD, INDEX_REMOVE, KEPT, MOVE, REFERENCE_ADD, SAFE_PLANS,
                           UNIQUE_ADD, WHOLE, WRONG_PLANS, plans_between, small_plans)
from tests.test_plans import BAD_LAGS
from tests.test_shortest import BAD_MOSTS

BAD_VERSIONS = (-1, 4, 100, True, False, None, "1", 1.0, (1,), 10 ** 6000)
READ = ("put", "read")

COLUMN_BACKS = {0: Plan("column", [()]), 1: Plan("column", [("put",), ()], "strip", 1),
                2: Plan("column", [READ, ("put",), ()], "strip", 2)}
INDEX_BACKS = {3: Plan("index", [WHOLE, ("drop", "put"), ("drop",), ()], "empty", 3),
               1: Plan("index", [("drop",), ()]), 2: Plan("index", [("drop", "put"), ()], "empty", 1)}


def wrong_back(plan, back, lag, version):
    """Whether the model finds something wrong on a way back."""
    return model.fewest(back, lag, model.worlds_at(plan, lag, version))[0] is not None


class WorldsAtTest(unittest.TestCase):
    def test_the_model_tells_the_same(self):
        for number, plan in enumerate(small_plans() + SAFE_PLANS + WRONG_PLANS):
            lag = 1 + number % 3
            if plan.kind == "unique" and number % 7:
                continue
            for version in range(len(plan.sets)):
                told = worlds_at(plan, lag, version)
                self.assertIs(type(told), list)
                self.assertEqual(len(told), len(set(told)))
                self.assertEqual(set(told), model.worlds_at(plan, lag, version), (plan.sets, plan.job, lag, version))

    def test_ahead_of_the_job_and_behind_it(self):
        self.assertEqual(sorted(worlds_at(COLUMN_ADD, 1, 0)), ["bare", "none"])
        self.assertEqual(sorted(worlds_at(COLUMN_ADD, 1, 1)), ["bare", "full", "none"])
        self.assertEqual(sorted(worlds_at(COLUMN_ADD, 1, 2)), ["full", "none"])

    def test_behind_faults(self):
        told = worlds_at(HASTY, 1, 1)
        self.assertIn(("this", 0), told)
        self.assertIn(("other", 1), told)

    def test_one_version(self):
        self.assertEqual(sorted(worlds_at(Plan("index", [WHOLE]), 1, 0)), [("none", 0), ("other", 0), ("this", 1)])

    def test_every_list_is_new(self):
        worlds_at(INDEX_ADD, 1, 2).clear()
        self.assertTrue(worlds_at(INDEX_ADD, 1, 2))

    def test_bad_lag_and_version(self):
        for lag in BAD_LAGS:
            with self.assertRaises(BadLag) as caught:
                worlds_at(INDEX_ADD, lag, -1)
            self.assertIs(caught.exception.lag, lag)
        for version in BAD_VERSIONS:
            with self.assertRaises(BadVersion) as caught:
                worlds_at(INDEX_ADD, 1, version)
            self.assertIs(caught.exception.version, version)
        with self.assertRaises(BadVersion):
            worlds_at(Plan("unique", [KEPT] * 40, "fill", 0), 20, 40)

    def test_too_large(self):
        with self.assertRaises(TooLarge) as caught:
            worlds_at(Plan("unique", [KEPT] * 31, "fill", 0), 2, 30)
        self.assertEqual(caught.exception.number, 100440)
        self.assertEqual(len(worlds_at(Plan("unique", [("drop", "put")] * 23, "fill", 0), 3, 0)), 108)


class JudgeBackTest(unittest.TestCase):
    def compare(self, plan, backs, lag):
        told = judge_back(plan, backs, lag)
        wrong = [version for version in backs if wrong_back(plan, backs[version], lag, version)]
        self.assertIs(type(told), CannotReturn if wrong else CanReturn)
        self.assertIs(bool(told), not wrong)
        self.assertIs(told.shows(plan, backs, lag), True)
        if wrong:
            self.assertIn(told.version, wrong)
            self.assertIn(told.world, kind_of(plan.kind).firsts(plan.sets[0]))
            standing, fault = moved(plan, lag, told.world, told.there)
            self.assertEqual((standing[:2], fault), ((told.version, told.version), ""))
            self.assertIn(standing[3], model.worlds_at(plan, lag, told.version))
        else:
            self.assertEqual(list(told.tables), list(backs))
            for version, back in backs.items():
                worlds = model.worlds_at(plan, lag, version)
                self.assertIs(type(told.tables[version]), tuple)
                self.assertEqual(set(told.tables[version]), model.fewest(back, lag, worlds)[1])
        return told

    def test_ways_back_of_recipes(self):
        self.assertTrue(self.compare(COLUMN_ADD, COLUMN_BACKS, 1))
        self.assertTrue(self.compare(INDEX_ADD, INDEX_BACKS, 1))
        self.assertTrue(self.compare(REFERENCE_ADD, {1: Plan("reference", [("check", "guard"), ()])}, 1))
        self.assertTrue(self.compare(MOVE, {3: Plan("moved", list(MOVE.sets)[::-1], "back", 1)}, 1))
        self.assertTrue(self.compare(UNIQUE_ADD, {2: Plan("unique", [GUARDED, ("drop", "put"), ()], "empty", 2)}, 1))

    def test_no_ways_back(self):
        told = self.compare(COLUMN_ADD, {}, 1)
        self.assertEqual(told, CanReturn({}))

    def test_ways_that_go_wrong(self):
        for backs in ({1: Plan("column", [("put",), ()])}, {2: Plan("column", [READ, ()], "strip", 1)},
                      {1: Plan("column", [("put",), ()], "strip", 0)},
                      {**COLUMN_BACKS, 2: Plan("column", [READ, ()], "strip", 1)}):
            self.assertFalse(self.compare(COLUMN_ADD, backs, 1))
        self.assertFalse(self.compare(INDEX_ADD, {2: Plan("index", [("drop", "put"), ()])}, 1))
        self.assertFalse(self.compare(INDEX_ADD, {3: Plan("index", [WHOLE, ("drop", "put"), ("drop",), ()])}, 1))

    def test_a_way_back_that_goes_wrong_before_any_move(self):
        plan = Plan("column", [(), ("put",), ()])
        told = self.compare(plan, {2: Plan("column", [()])}, 1)
        self.assertEqual((told.version, told.back), (2, ()))
        plan = Plan("index", [WHOLE, ("put",), WHOLE])
        told = self.compare(plan, {2: Plan("index", [WHOLE])}, 1)
        self.assertEqual(told.back, ())

    def test_beginnings_need_not_be_first_worlds(self):
        # From the set drop and put alone a table may have any entries, but this one cannot have any.
        plan = Plan("index", [(), ("drop",)])
        self.assertTrue(self.compare(plan, {1: Plan("index", [("drop",), ()])}, 1))
        plan = Plan("column", [(), READ, ()])
        self.assertFalse(self.compare(plan, {1: Plan("column", [READ, READ, ()], "strip", 2)}, 1))

    def test_all_small_ways_back(self):
        for plan in (COLUMN_ADD, Plan("column", [("put",), (), READ], "fill", 0),
                     Plan("whole", [(), ("put",)], "strip", 1),
                     Plan("moved", [("from old", "old"), ("new", "old")], "copy", 1),
                     Plan("reference", [(), ("check",), ("check", "guard")], "sweep", 1), INDEX_REMOVE):
            told = []
            for version in range(len(plan.sets)):
                if kind_of(plan.kind).firsts(plan.sets[version]):
                    backs = plans_between(plan.kind, plan.sets[version], plan.sets[0], 3)
                    for number, back in enumerate(backs[::1 if len(backs) < 40 else 7]):
                        told.append(bool(self.compare(plan, {version: back}, 1 + number % 2)))
            self.assertEqual(set(told), {False, True}, plan.sets)

    def test_unsafe_plans_can_have_ways_back(self):
        self.assertTrue(self.compare(HASTY, {0: Plan("index", [()], "empty", 0)}, 1))
        self.assertTrue(self.compare(Plan("index", [(), ("put",)]), {1: Plan("index", [("put",), ()], "empty", 1)}, 1))

    def test_backs_are_not_changed_and_tables_are_new(self):
        backs = dict(COLUMN_BACKS)
        told = judge_back(COLUMN_ADD, backs, 1)
        told.tables.clear()
        self.assertEqual(backs, COLUMN_BACKS)
        self.assertTrue(judge_back(COLUMN_ADD, backs, 1).tables)


class RefusedTest(unittest.TestCase):
    def bad(self, error, expected, plan, backs, lag):
        can = CanReturn({})
        cannot = CannotReturn(0, "none", [], [])
        for ask in (judge_back, can.shows, cannot.shows):
            with self.assertRaises(error) as caught:
                ask(plan, backs, lag)
            self.assertEqual(vars(caught.exception), expected)

    def test_bad_lag(self):
        for lag in BAD_LAGS:
            self.bad(BadLag, {"lag": lag}, COLUMN_ADD, {7: None}, lag)

    def test_no_such_version(self):
        for version in (-1, 3, "1", None, True, False, (1,)):
            backs = {2: COLUMN_BACKS[2], version: COLUMN_BACKS[1], 9: None}
            self.bad(BadBack, {"version": version}, COLUMN_ADD, backs, 1)

    def test_no_such_way(self):
        for back in (None, "back", (("put",), ()), Plan("whole", [("put",), ()], "strip", 1),
                     Plan("column", [READ, ()]),
                     Plan("column", [(), ()]), Plan("column", [("put",), ("put",)]), Plan("column", [("put",)])):
            self.bad(BadBack, {"version": 1}, COLUMN_ADD, {2: COLUMN_BACKS[2], 1: back, 0: None}, 1)

    def test_the_first_one_as_the_dict_goes(self):
        self.bad(BadBack, {"version": 2}, COLUMN_ADD, {2: None, 1: None}, 1)
        self.bad(BadBack, {"version": 1}, COLUMN_ADD, {1: None, 2: None}, 1)

    def test_too_large(self):
        small, large = Plan("unique", [KEPT] * 2, "fill", 0), Plan("unique", [KEPT] * 31, "fill", 0)
        larger = Plan("unique", [KEPT] * 40, "fill", 0)
        self.bad(TooLarge, {"number": 100440}, large, {0: larger}, 2)
        self.bad(TooLarge, {"number": 100440}, small, {1: large, 0: larger}, 2)
        self.bad(TooLarge, {"number": 129600}, small, {1: larger, 0: large}, 2)
        self.bad(BadBack, {"version": 5}, small, {1: larger, 5: None}, 2)

    def test_what_is_not_too_large(self):
        plan = Plan("unique", [("drop", "put")] * 23, "fill", 0)
        told = judge_back(plan, {22: plan}, 3)
        self.assertTrue(told)
        self.assertIs(told.shows(plan, {22: plan}, 3), True)


class CanReturnTest(unittest.TestCase):
    def test_attributes_and_equality(self):
        tables = {1: ((0, 0, "none", "bare"),)}
        told = CanReturn(tables)
        self.assertEqual(told.tables, tables)
        tables.clear()
        self.assertEqual(len(told.tables), 1)
        self.assertTrue(told == CanReturn({1: ((0, 0, "none", "bare"),)}))
        for other in (CanReturn({}), CanReturn({1: ()}), CanReturn({0: told.tables[1]}), told.tables, True, None):
            self.assertFalse(told == other)
        self.assertIs(bool(CanReturn({})), True)

    def test_one_thing_changed(self):
        for plan, backs in ((COLUMN_ADD, COLUMN_BACKS), (INDEX_ADD, INDEX_BACKS)):
            tables = judge_back(plan, backs, 1).tables
            for version, table in tables.items():
                others = {other: tables[other] for other in tables if other != version}
                self.assertIs(CanReturn(others).shows(plan, backs, 1), False)
                self.assertIs(CanReturn({**others, 9: table}).shows(plan, backs, 1), False)
                self.assertIs(CanReturn({**others, bool(version): table}).shows(plan, backs, 1), False)
                self.assertIs(CanReturn({**tables, 9: table}).shows(plan, backs, 1), False)
                for at, standing in enumerate(table):
                    low, high, phase, world = standing
                    for changed in ((), (None,), ((low, high, phase, "no"),), ((low, 9, phase, world),),
                                    ((bool(low), high, phase, world),), ((low, high, "no", world),)):
                        told = {**tables, version: table[:at] + changed + table[at + 1:]}
                        self.assertIs(CanReturn(told).shows(plan, backs, 1), False, changed)

    def test_tables_of_too_few_beginnings(self):
        # All worlds of a safe way from its own first worlds are too few, where others come, too.
        plan = Plan("column", [(), ("put",), ()], "strip", 1)
        back = Plan("column", [(), ()], "strip", 0)
        told = judge_back(plan, {2: back}, 1)
        self.assertIs(told.shows(plan, {2: back}, 1), True)
        less = tuple(standing for standing in told.tables[2] if standing[3] != "full")
        self.assertIs(CanReturn({2: less}).shows(plan, {2: back}, 1), False)

    def test_other_questions(self):
        told = judge_back(COLUMN_ADD, COLUMN_BACKS, 1)
        self.assertIs(told.shows(COLUMN_ADD, {1: COLUMN_BACKS[1]}, 1), False)
        self.assertIs(told.shows(COLUMN_ADD, {**COLUMN_BACKS, 1: Plan("column", [("put",), ()])}, 1), False)
        self.assertIs(CanReturn({}).shows(COLUMN_ADD, {}, 1), True)
        self.assertIs(CanReturn({}).shows(COLUMN_ADD, COLUMN_BACKS, 1), False)
        told = judge_back(INDEX_ADD, INDEX_BACKS, 1)
        self.assertIs(told.shows(INDEX_ADD, INDEX_BACKS, 2), False)


class CannotReturnTest(unittest.TestCase):
    def setUp(self):
        self.plan = COLUMN_ADD
        self.backs = {1: COLUMN_BACKS[1], 2: Plan("column", [READ, ()], "strip", 1)}
        self.told = judge_back(self.plan, self.backs, 1)

    def shows(self, version=None, world=None, there=None, back=None):
        told = self.told
        changed = CannotReturn(told.version if version is None else version, told.world if world is None else world,
                               told.there if there is None else there, told.back if back is None else back)
        return changed.shows(self.plan, self.backs, 1)

    def test_attributes_and_equality(self):
        there, back = [("tell",)], [("leave",), ("end",)]
        told = CannotReturn(1, "bare", there, back)
        self.assertEqual((told.version, told.world, told.there, told.back), (1, "bare", tuple(there), tuple(back)))
        self.assertIs(type(told.there), tuple)
        self.assertIs(type(told.back), tuple)
        there.clear()
        self.assertEqual(len(told.there), 1)
        self.assertTrue(told == CannotReturn(1, "bare", [("tell",)], back))
        for other in (CannotReturn(2, "bare", told.there, back), CannotReturn(1, "none", told.there, back),
                      CannotReturn(1, "bare", [], back), CannotReturn(1, "bare", told.there, []), CanReturn({}), None,
                      False):
            self.assertFalse(told == other)
        self.assertIs(bool(told), False)

    def test_as_it_was_told(self):
        self.assertIs(self.shows(), True)
        self.assertEqual(self.told.version, 2)

    def test_versions(self):
        for version in (0, 1, 3, -1, "2", None, (2,), 2.5):
            self.assertIs(CannotReturn(version, self.told.world, self.told.there, self.told.back)
                          .shows(self.plan, self.backs, 1), False)
        plan = Plan("column", [(), ("put",), ()])
        backs = {1: Plan("column", [("put",), ()])}
        told = judge_back(plan, backs, 1)
        self.assertIs(told.shows(plan, backs, 1), True)
        self.assertIs(CannotReturn(True, told.world, told.there, told.back).shows(plan, backs, 1), False)

    def test_worlds(self):
        for world in ("full", "no", 0, ("none",), ["none"], {}, True):
            self.assertIs(self.shows(world=world), False, world)

    def test_moves_there(self):
        there = self.told.there
        for at in range(len(there)):
            self.assertIs(self.shows(there=there[:at]), False, at)
            for move in (None, ("no",), ("work", False), ("work", 1), list(there[at]), there[at] + (0,)):
                self.assertIs(self.shows(there=there[:at] + (move,) + there[at + 1:]), False, move)
        self.assertIs(self.shows(there=there + (("tell",),)), False)
        self.assertIs(self.shows(there=there + (("deed", 2, "read"),)), True)

    def test_moves_back(self):
        back = self.told.back
        for at in range(len(back)):
            self.assertIs(self.shows(back=back[:at]), False, at)
            for move in (None, ("no",), ("deed", False, "read"), list(back[at]), back[at] + (0,)):
                self.assertIs(self.shows(back=back[:at] + (move,) + back[at + 1:]), False, move)
        self.assertIs(self.shows(back=back + (("tell",),)), False)

    def test_no_move_there_is_behind_a_fault(self):
        plan = Plan("index", [(), WHOLE, WHOLE])
        backs = {2: Plan("index", [WHOLE, ()])}
        steps, read = [("tell",), ("leave",), ("tell",), ("leave",)], ("deed", 1, "read")
        back = [("deed", 0, "read")]
        self.assertIs(CannotReturn(2, ("this", 0), steps, back).shows(plan, backs, 1), True)
        self.assertIs(CannotReturn(2, ("this", 0), steps[:2] + [read] + steps[2:], back).shows(plan, backs, 1), False)
        self.assertIs(CannotReturn(2, ("other", 0), steps[:2] + [read] + steps[2:] + [("deed", 2, "read")], back)
                      .shows(plan, backs, 1), False)

    def test_not_while_the_job_is_under_way(self):
        plan = Plan("column", [(), READ], "fill", 1)
        backs = {1: Plan("column", [READ, ()])}
        steps = [("tell",), ("leave",)]
        back = [("deed", 0, "read")]
        self.assertIs(CannotReturn(1, "bare", steps, back).shows(plan, backs, 1), True)
        self.assertIs(CannotReturn(1, "bare", steps + [("begin",)], back).shows(plan, backs, 1), False)
        self.assertIs(CannotReturn(1, "none", steps + [("begin",), ("work", 0), ("end",)], [
            ("deed", 0, "insert"), ("tell",), ("leave",)]).shows(plan, backs, 1), True)

    def test_where_the_job_gave_up_there_is_no_way_back(self):
        plan = Plan("reference", [(), ()], "check", 0)
        backs = {0: Plan("reference", [(), ()])}
        self.assertIs(CannotReturn(0, (0, 1), [("begin",), ("work", 0)], []).shows(plan, backs, 1), False)

    def test_a_way_back_whose_job_gives_up_is_not_wrong(self):
        plan = Plan("reference", [(), ()])
        backs = {1: Plan("reference", [(), ()], "check", 0)}
        steps = [("tell",), ("leave",)]
        self.assertIs(CannotReturn(1, (0, 1), steps, [("begin",), ("work", 0)]).shows(plan, backs, 1), False)
        self.assertTrue(judge_back(plan, backs, 1))

    def test_other_questions(self):
        self.assertIs(self.told.shows(self.plan, {1: COLUMN_BACKS[1]}, 1), False)
        self.assertIs(self.told.shows(self.plan, {2: COLUMN_BACKS[2]}, 1), False)
        self.assertIs(self.told.shows(self.plan, {2: self.backs[2]}, 1), True)
        self.assertIs(self.told.shows(self.plan, {}, 1), False)


class ShortestBackTest(unittest.TestCase):
    def compare(self, plan, version, lag, most):
        told = shortest_back(plan, version, lag, most)
        worlds = model.worlds_at(plan, lag, version)
        expected = None
        for back in plans_between(plan.kind, plan.sets[version], plan.sets[0], most):
            if model.fewest(back, lag, worlds)[0] is None:
                expected = back
                break
        self.assertEqual(told, expected, (plan.sets, version, lag, most))
        if told:
            self.assertTrue(judge_back(plan, {version: told}, lag))
        return told

    def test_the_example(self):
        plan = Plan("column", [(), ("put",), ("put", "read")], "fill", 1)
        self.assertEqual([(back.sets, back.job) for back in [shortest_back(plan, version, 1, 3) for version in (1, 2)]],
                         [((("put",), ()), "strip"), ((("put", "read"), ("put",), ()), "strip")])

    def test_the_model_tells_the_same(self):
        found = []
        for plan, most in ((COLUMN_ADD, 3), (INDEX_ADD, 3), (INDEX_REMOVE, 3), (REFERENCE_ADD, 3), (MOVE, 2),
                           (UNIQUE_ADD, 2),
                           (Plan("whole", [(), ("put",), ()]), 3),
                           (Plan("column", [("put",), (), READ], "fill", 0), 3)):
            for version in range(len(plan.sets)):
                for lag in (1, 2):
                    for least in range(1, most + 1):
                        found.append(self.compare(plan, version, lag, least))
        self.assertIn(None, found)
        self.assertIn(1, [len(back.sets) for back in found if back])
        self.assertIn(3, [len(back.sets) for back in found if back])

    def test_a_way_from_worlds_that_are_no_first_ones(self):
        # Where nothing was ever put, the plan of one version without a job would do.
        plan = Plan("index", [(), ("put",), ()])
        self.assertEqual(self.compare(plan, 0, 1, 1), Plan("index", [()]))
        self.assertEqual(self.compare(plan, 2, 1, 1), Plan("index", [()], "empty", 0))

    def test_the_first_version(self):
        for plan in SAFE_PLANS:
            self.assertEqual(shortest_back(plan, 0, 1, 1), Plan(plan.kind, plan.sets[:1]))

    def test_bad_arguments_in_their_order(self):
        large = Plan("unique", [KEPT] * 40, "fill", 0)
        odd = Plan("index", [(), ("read",), ()])
        for lag in BAD_LAGS:
            self.bad(BadLag, {"lag": lag}, large, 99, lag, 0)
        for version in BAD_VERSIONS:
            self.bad(BadVersion, {"version": version}, INDEX_ADD, version, 1, 0)
        self.bad(BadVersion, {"version": 40}, large, 40, 20, 0)
        self.bad(TooLarge, {"number": 108 * 10 * 40 * 21}, large, 1, 20, 0)
        for most in BAD_MOSTS:
            self.bad(BadPlan, {"part": "most"}, odd, 1, 1, most)
        self.bad(TooLarge, {"number": 11953}, odd, 1, 1, 5)
        self.bad(TooLarge, {"number": 11958}, odd, 2, 1, 5)
        self.bad(BadPlan, {"part": "first"}, odd, 1, 1, 4)
        self.bad(BadPlan, {"part": "first"}, odd, 1, 1, 1)

    def bad(self, error, expected, *arguments):
        with self.assertRaises(error) as caught:
            shortest_back(*arguments)
        self.assertEqual(vars(caught.exception), expected)

    def test_just_at_the_bound(self):
        for number, is_too_large in ((33, False), (32, True)):
            with mock.patch.object(searching, "MOST_PLANS", number):
                if is_too_large:
                    self.bad(TooLarge, {"number": 33}, COLUMN_ADD, 2, 1, 3)
                else:
                    self.assertEqual(shortest_back(COLUMN_ADD, 2, 1, 3), COLUMN_BACKS[2])


if __name__ == "__main__":
    unittest.main()

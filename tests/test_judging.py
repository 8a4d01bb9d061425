"""[1], [12], [14]: judging."""

import copy
import unittest

from openchange.errors import BadLag, TooLarge
from openchange.judging import Safe, Wrong, judge, moved
from openchange.kinds import KINDS, kind_of
from openchange.plans import Plan, held
from tests import model
from tests.samples import (COLUMN_ADD, COLUMN_REMOVE, HASTY, INDEX_ADD, INDEX_REMOVE, KEPT, MOVE, REFERENCE_ADD,
                           REFERENCE_REMOVE, SAFE_PLANS, UNIQUE_ADD, WHOLE, WHOLE_ADD, WRONG_PLANS, plans_of,
                           small_plans)
from tests.test_plans import BAD_LAGS


def fault_of(plan, lag, told):
    """What a Wrong goes wrong by."""
    standing, fault = moved(plan, lag, told.world, told.moves)
    return fault or ("left over" if model.is_left_over(plan, standing) else "nothing")


class JudgeTest(unittest.TestCase):
    def test_the_example(self):
        hasty = Plan("index", [(), WHOLE], "fill", 0)
        told = judge(hasty, 1)
        self.assertEqual((bool(told), told.shows(hasty, 1), len(told.moves)), (False, True, 6))
        self.assertIs(bool(judge(Plan("index", [(), ("drop",), ("drop", "put"), WHOLE], "fill", 2), 1)), True)

    def test_safe_plans(self):
        for plan in SAFE_PLANS:
            told = judge(plan, 1)
            self.assertIs(type(told), Safe, plan.sets)
            self.assertIs(bool(told), True)
            self.assertIs(type(told.table), tuple)
            self.assertIs(told.shows(plan, 1), True)
            self.assertEqual(set(told.table), model.fewest(plan, 1)[1])

    def test_wrong_plans(self):
        for plan in WRONG_PLANS:
            told = judge(plan, 1)
            self.assertIs(type(told), Wrong, plan.sets)
            self.assertIs(bool(told), False)
            self.assertIs(type(told.moves), tuple)
            self.assertIs(told.shows(plan, 1), True)
            self.assertNotEqual(fault_of(plan, 1, told), "nothing")
            self.assertEqual(len(told.moves), model.fewest(plan, 1)[0])

    def test_plans_of_one_version(self):
        for kind in KINDS:
            for plan in plans_of(kind, 1):
                told = judge(plan, 1)
                self.assertIs(told.shows(plan, 1), True)
                if not plan.job:
                    self.assertTrue(told)
                    self.assertEqual(set(told.table), set(model.beginnings(plan)))

    def test_small_plans_for_several_lags(self):
        for number, plan in enumerate(small_plans()):
            lag = 1 + number % 3
            told = judge(plan, lag)
            fewest, _ = model.fewest(plan, lag)
            self.assertEqual(bool(told), fewest is None, (plan.kind, plan.sets, plan.job, plan.at, lag))
            self.assertIs(told.shows(plan, lag), True, (plan.kind, plan.sets, plan.job, plan.at, lag))
            if not told:
                self.assertEqual(len(told.moves), fewest, (plan.kind, plan.sets, plan.job, plan.at, lag))

    def test_plans_may_be_safe_for_one_lag_and_wrong_for_another(self):
        for plan in (INDEX_ADD, INDEX_REMOVE, COLUMN_ADD, COLUMN_REMOVE, WHOLE_ADD, REFERENCE_REMOVE, MOVE, UNIQUE_ADD):
            self.assertTrue(judge(plan, 1))
            told = judge(plan, 2)
            waits = plan in (COLUMN_ADD, WHOLE_ADD)
            self.assertEqual(bool(told), waits, plan.sets)
            self.assertIs(told.shows(plan, 2), True)
            self.assertEqual(told.shows(plan, 1), waits)

    def test_a_fault_that_comes_at_once(self):
        told = judge(Plan("moved", [(), ("from old", "old"), ()]), 1)
        self.assertEqual(told.moves, (("tell",), ("deed", 1, "read")))
        told = judge(Plan("index", [("drop", "put"), WHOLE, ()]), 1)
        self.assertEqual(told.moves, (("tell",), ("deed", 1, "read")))

    def test_held_plans_are_safe_for_the_lag_exactly_if_the_plan_is_for_one(self):
        safe = 0
        for number, plan in enumerate(small_plans()):
            expected = bool(judge(plan, 1))
            safe += expected
            for lag in (2, 3, 20):
                if plan.kind != "unique" or (lag == 2 and number % 5 == 0):
                    self.assertEqual(bool(judge(held(plan, lag), lag)), expected, (plan.kind, plan.sets, lag))
        self.assertGreater(safe, 50)
        for plan in (HASTY, *SAFE_PLANS):
            for lag in (2, 3):
                self.assertEqual(bool(judge(held(plan, lag), lag)), plan is not HASTY)

    def test_bad_lag(self):
        for lag in BAD_LAGS:
            told = (judge(INDEX_ADD, 1).shows, judge(HASTY, 1).shows, judge)
            for ask in told:
                with self.assertRaises(BadLag) as caught:
                    ask(INDEX_ADD, lag)
                self.assertIs(caught.exception.lag, lag)

    def test_too_large(self):
        # 108 worlds, 10 phases, versions, lag + 1: at most 92 of versions times lag + 1.
        self.assertTrue(judge(Plan("unique", [("drop", "put")] * 23, "fill", 0), 3))
        for many, lag in ((31, 2), (24, 3), (40, 20), (5, 18)):
            with self.assertRaises(TooLarge) as caught:
                judge(Plan("unique", [("drop", "put")] * many, "fill", 0), lag)
            self.assertEqual(caught.exception.number, 1080 * many * (lag + 1))

    def test_what_is_not_too_large(self):
        self.assertTrue(judge(Plan("unique", [()] * 40), 20))
        self.assertTrue(judge(Plan("index", [()] * 40, "empty", 7), 20))

    def test_bad_lag_ahead_of_too_large(self):
        with self.assertRaises(BadLag):
            judge(Plan("unique", [()] * 40, "fill", 0), 21)

    def test_shows_knows_no_too_large(self):
        plan = Plan("unique", [KEPT] * 40, "fill", 0)
        self.assertIs(Safe([]).shows(plan, 20), False)
        self.assertIs(Wrong(("none", "none", "none", 0), []).shows(plan, 20), False)

    def test_the_plan_is_not_changed(self):
        plan = copy.deepcopy(HASTY)
        judge(plan, 1).shows(plan, 1)
        self.assertEqual(plan, HASTY)


class SafeTest(unittest.TestCase):
    def test_attributes_and_equality(self):
        table = [(0, 0, "none", "bare"), (0, 0, "none", "none")]
        told = Safe(table)
        self.assertEqual(told.table, tuple(table))
        self.assertIs(type(told.table), tuple)
        table.clear()
        self.assertEqual(len(told.table), 2)
        self.assertTrue(told == Safe(told.table))
        self.assertTrue(told != Safe(told.table[::-1]))
        for other in (told.table, None, True, 1, Wrong(told.table, [])):
            self.assertFalse(told == other)
        self.assertFalse(Safe([]) == Wrong("none", []))
        self.assertIs(bool(Safe([])), True)

    def test_one_standing_less(self):
        for plan in (INDEX_ADD, COLUMN_ADD, MOVE, REFERENCE_REMOVE):
            table = judge(plan, 1).table
            for at in range(len(table)):
                self.assertIs(Safe(table[:at] + table[at + 1:]).shows(plan, 1), False)
        self.assertIs(Safe([]).shows(INDEX_ADD, 1), False)

    def test_order_and_kind_of_row_do_not_matter(self):
        table = judge(INDEX_ADD, 1).table
        self.assertIs(Safe(list(table[::-1])).shows(INDEX_ADD, 1), True)
        self.assertIs(Safe(table + table[:3]).shows(INDEX_ADD, 1), True)

    def test_standings_to_which_no_run_comes(self):
        for plan in (COLUMN_ADD, Plan("column", [(), ("put",), ("put",)])):
            table = judge(plan, 1).table if judge(plan, 1) else ()
            for standing in model.all_standings(plan):
                closed = list(table) + [standing]
                for at in closed:
                    closed.extend(behind for behind, _ in model.moves(plan, 1, at).values()
                                  if behind != "off" and behind not in closed)
                fair = bool(table) and not any(
                    model.is_left_over(plan, at) or any(fault for _, fault in model.moves(plan, 1, at).values())
                    for at in closed)
                self.assertEqual(Safe(closed).shows(plan, 1), fair, standing)

    def test_the_whole_of_all_standings_without_faults(self):
        plan = Plan("moved", [(), (), ()])
        every = model.all_standings(plan)
        self.assertIs(Safe(every).shows(plan, 1), True)
        self.assertIs(Safe(every).shows(plan, 20), True)
        self.assertIs(Safe([standing for standing in every if standing[3] != ()]).shows(plan, 1), False)

    def test_a_fault_in_the_table(self):
        self.assertIs(Safe(model.all_standings(INDEX_ADD)).shows(INDEX_ADD, 1), False)
        self.assertIs(Safe(model.all_standings(HASTY)).shows(HASTY, 1), False)

    def test_something_left_over_in_the_table(self):
        plan = Plan("column", [(), ("put",)])
        self.assertIs(Safe(model.all_standings(Plan("column", [(), ()]))).shows(Plan("column", [(), ()]), 1), False)
        self.assertIs(Safe(model.all_standings(plan)).shows(plan, 1), True)

    def test_first_standings_must_be_there(self):
        plan = Plan("moved", [("from old", "old"), ("old",)])
        every = [standing for standing in model.all_standings(plan) if standing[3] in ((), (1, 0))]
        self.assertIs(Safe(every).shows(plan, 1), False)
        every = [standing for standing in model.all_standings(plan) if standing[3] in ((), (1, 0), (1, 1))]
        self.assertIs(Safe(every).shows(plan, 1), True)

    def test_where_a_job_gives_up_nothing_is_behind(self):
        for plan in (UNIQUE_ADD, REFERENCE_ADD):
            told = judge(plan, 1)
            self.assertIs(bool(told), True)
            self.assertIs(told.shows(plan, 1), True)
            self.assertNotIn(None, told.table)
            self.assertIs(Safe(told.table + (None,)).shows(plan, 1), False)

    def test_what_is_no_standing(self):
        for plan, no_standings in (
                (INDEX_ADD, [
                    None, (), "none", [0, 0, "before", ("none", 0)], (0, 0, "before"), (0, 0, "none", ("none", 0)),
                    (0, 0, "before", ("none", 0), 0), (0, 0, "before", ("none", 2)), (0, 0, "before", "none"),
                    (0, 0, "before", ["none", 0]), (0, 0, "before", ("none", False)), (0, 0, "before", ("none", None)),
                    (False, 0, "before", ("none", 0)), (0, False, "before", ("none", 0)),
                    (-1, 0, "before", ("none", 0)),
                    (1, 0, "before", ("none", 0)), (0, 4, "before", ("none", 0)), (4, 4, "before", ("none", 0)),
                    ("0", 0, "before", ("none", 0)), (0, None, "before", ("none", 0)), (0, 0, (), ("none", 0)),
                    (2, 2, (0, 0), ("none", 0)), (2, 2, (False,), ("none", 0)), (2, 2, [0], ("none", 0)),
                    (2, 2, (2,), ("none", 0)), (2, 2, 0, ("none", 0)), (0, 0, "off", ("none", 0)),
                    (0, 0, None, ("none", 0)), (0, 0, {}, ("none", 0)), (0, 0, "before", {}),
                    (0.0, 0, "before", ("none", 0)), (0, 0, "before", ("none", (0,))), (3, 3, True, ("none", 0))]),
                (REFERENCE_REMOVE, [
                    (0, 0, "before", (0, 0)), (0, 0, "ended", (0, 0)), (0, 0, (0,), (0, 0)), (0, 0, "none", (0, True)),
                    (0, 0, "none", (0, 2)), (0, 0, "none", ()), (0, 0, "none", (0,)), (0, 0, "none", (0, 0, 0))])):
            table = judge(plan, 1).table
            for value in no_standings:
                self.assertIs(Safe((value,) + table).shows(plan, 1), False, value)
                self.assertIs(Safe(table + (value,)).shows(plan, 1), False, value)

    def test_closed_lots_of_what_are_no_standings(self):
        plan = Plan("moved", [(), ()], "copy", 1)
        every = model.all_standings(plan)
        self.assertIs(Safe(every).shows(plan, 1), True)
        for change in (
                lambda low, high, phase, world: (-1, high, phase, world),
                lambda low, high, phase, world: (low, 2, phase, world),
                lambda low, high, phase, world: (2, high, phase, world),
                lambda low, high, phase, world: (low, high, "off", world),
                lambda low, high, phase, world: (low, high, "none", world),
                lambda low, high, phase, world: (low, high, (), world),
                lambda low, high, phase, world: (low, high, phase, (2, 2)),
                lambda low, high, phase, world: (low, high, phase, (0,)),
                lambda low, high, phase, world: (low, high, phase, None),
                lambda low, high, phase, world: (low, high, phase, world, 0)):
            self.assertIs(Safe(every + [change(*standing) for standing in every]).shows(plan, 1), False)

    def test_true_in_the_place_of_one(self):
        table = judge(INDEX_ADD, 1).table
        for at, (low, high, phase, world) in enumerate(table):
            changed = [(True if low == 1 else low, high, phase, world),
                       (low, True if high == 1 else high, phase, world),
                       (low, high, (True,) if phase == (1,) else phase, world),
                       (low, high, phase, (world[0], bool(world[1])))]
            for standing in changed:
                if repr(standing) != repr(table[at]):
                    self.assertIs(Safe(table[:at] + (standing,) + table[at + 1:]).shows(INDEX_ADD, 1), False, standing)

    def test_other_plans(self):
        for plan in SAFE_PLANS:
            told = judge(plan, 1)
            for other in SAFE_PLANS + WRONG_PLANS:
                if other.sets != plan.sets or other.job != plan.job:
                    self.assertIs(told.shows(other, 1), False, (plan.sets, other.sets))
        self.assertIs(judge(COLUMN_REMOVE, 1).shows(Plan("column", COLUMN_REMOVE.sets, "strip", 1), 1), False)
        self.assertIs(judge(COLUMN_REMOVE, 1).shows(Plan("column", COLUMN_REMOVE.sets), 1), False)

    def test_other_lags(self):
        told = judge(held(INDEX_ADD, 2), 2)
        self.assertIs(told.shows(held(INDEX_ADD, 2), 2), True)
        self.assertIs(told.shows(held(INDEX_ADD, 2), 1), True)
        self.assertIs(told.shows(held(INDEX_ADD, 2), 3), False)
        self.assertIs(judge(held(INDEX_ADD, 2), 1).shows(held(INDEX_ADD, 2), 2), False)


class WrongTest(unittest.TestCase):
    def test_attributes_and_equality(self):
        moves = [("tell",), ("leave",)]
        told = Wrong("bare", moves)
        self.assertEqual((told.world, told.moves), ("bare", tuple(moves)))
        self.assertIs(type(told.moves), tuple)
        moves.clear()
        self.assertEqual(len(told.moves), 2)
        self.assertTrue(told == Wrong("bare", told.moves))
        for other in (Wrong("none", told.moves), Wrong("bare", told.moves[:1]), told.moves, None, False, 0, Safe([])):
            self.assertFalse(told == other)
            self.assertTrue(told != other)
        self.assertIs(bool(told), False)

    def test_more_moves_than_needed_show_it_too(self):
        told = judge(HASTY, 1)
        moves = (("deed", 0, "other"), ("deed", 0, "none")) + told.moves
        self.assertIs(Wrong(("none", 0), moves).shows(HASTY, 1), True)

    def test_one_move_less(self):
        for plan in WRONG_PLANS:
            told = judge(plan, 1)
            for at in range(len(told.moves)):
                self.assertIs(Wrong(told.world, told.moves[:at]).shows(plan, 1), False)

    def test_one_move_more(self):
        for plan in WRONG_PLANS:
            told = judge(plan, 1)
            if fault_of(plan, 1, told) != "left over":
                for move in told.moves + (("leave",), ("tell",), ("begin",), ("end",), ("work", 0)):
                    self.assertIs(Wrong(told.world, told.moves + (move,)).shows(plan, 1), False)

    def test_behind_what_is_left_over(self):
        plan = Plan("column", [(), ("put", "read"), ()], "fill", 1)
        told = judge(plan, 1)
        self.assertIs(told.shows(plan, 1), True)
        plan = Plan("column", [(), ("put",), ()])
        moves = (("tell",), ("deed", 1, "insert"), ("leave",), ("tell",), ("leave",))
        self.assertIs(judge(plan, 1).shows(plan, 1), True)
        self.assertEqual(len(judge(plan, 1).moves), 5)
        self.assertIs(Wrong("none", moves).shows(plan, 1), True)
        self.assertIs(Wrong("none", moves + (("deed", 2, "change"),)).shows(plan, 1), True)
        self.assertIs(Wrong("none", moves + (("deed", 2, "erase"),)).shows(plan, 1), False)
        self.assertIs(Wrong("none", moves[:-1]).shows(plan, 1), False)

    def test_nothing_is_left_over_ahead_of_the_jobs_end(self):
        plan = Plan("index", [(), ("put",)], "empty", 1)
        moves = (("tell",), ("deed", 1, "this"), ("deed", 1, "other"), ("leave",))
        standing, _ = moved(plan, 1, ("none", 0), moves)
        self.assertEqual(standing, (1, 1, "before", ("other", 1)))
        plan = Plan("index", [(), ("put",), ()], "fill", 2)
        moves += (("tell",), ("leave",))
        self.assertIs(Wrong(("none", 0), moves).shows(plan, 1), False)
        self.assertIs(Wrong(("none", 0), moves + (("begin",), ("work", 0))).shows(plan, 1), False)
        self.assertIs(Wrong(("none", 0), moves + (("begin",), ("work", 0), ("end",))).shows(plan, 1), True)

    def test_one_thing_changed(self):
        told = judge(HASTY, 1)
        self.assertIs(told.shows(HASTY, 1), True)
        for at, move in enumerate(told.moves):
            for other in (None, "tell", list(move), (), move + (0,), ("deed", 0, "no"), ("deed", 5, "read"),
                          ("deed", False, "this"), ("work", False), ("work", 1), ("deed", [0], {})):
                changed = told.moves[:at] + (other,) + told.moves[at + 1:]
                self.assertIs(Wrong(told.world, changed).shows(HASTY, 1), False, changed)

    def test_only_first_worlds(self):
        plan = Plan("index", [(), WHOLE], "", 0)
        moves = (("tell",), ("deed", 1, "read"))
        self.assertIs(Wrong(("this", 0), moves).shows(plan, 1), True)
        for world in (("none", 0), ("other", 1), ("none", 1), ["this", 0], ("this", False), ("this",), "this", None, 0,
                      {}, ("this", 0, 0), (), ("that", 0), ("this", 2), ("this", [0])):
            self.assertIs(Wrong(world, moves).shows(plan, 1), False, world)

    def test_a_fault_from_no_first_world_shows_nothing(self):
        plan = Plan("column", [("put", "read"), ("put", "read")])
        self.assertIs(Wrong("bare", [("deed", 0, "read")]).shows(plan, 1), False)

    def test_a_job_that_gives_up_is_not_wrong(self):
        plan = Plan("reference", [(), ("check", "guard", "read")], "check", 0)
        self.assertIs(Wrong((0, 1), [("begin",), ("work", 0)]).shows(plan, 1), False)
        self.assertIs(Wrong((0, 1), [("begin",), ("work", 0), ("end",)]).shows(plan, 1), False)

    def test_other_plans_and_lags(self):
        told = judge(HASTY, 1)
        self.assertIs(told.shows(INDEX_ADD, 1), False)
        self.assertIs(told.shows(Plan("index", HASTY.sets, "fill", 1), 1), False)
        self.assertIs(told.shows(Plan("index", HASTY.sets), 1), False)
        self.assertIs(told.shows(COLUMN_ADD, 1), False)
        self.assertIs(told.shows(HASTY, 20), True)
        told = judge(MOVE, 2)
        self.assertIs(bool(told), False)
        self.assertIs(told.shows(MOVE, 2), True)
        self.assertIs(told.shows(MOVE, 3), True)
        self.assertIs(told.shows(MOVE, 1), False)

    def test_wrong_of_safe_plans_never_shows(self):
        for plan in SAFE_PLANS:
            worlds = kind_of(plan.kind).worlds()
            for wrong in WRONG_PLANS:
                told = judge(wrong, 1)
                self.assertIs(told.shows(plan, 1), False)
                for world in worlds[:6]:
                    self.assertIs(Wrong(world, told.moves).shows(plan, 1), False)


if __name__ == "__main__":
    unittest.main()

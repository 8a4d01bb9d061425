"""[11]: standings and moves, seen through moved ([12])."""

import unittest

from openchange.errors import BadLag, BadMove
from openchange.judging import moved
from openchange.plans import Plan
from tests import model
from tests.samples import HASTY, INDEX_ADD, KEPT, MOVE, REFERENCE_ADD, UNIQUE_ADD, WHOLE, small_plans
from tests.test_plans import BAD_LAGS

TELL, LEAVE, BEGIN, END, WORK = ("tell",), ("leave",), ("begin",), ("end",), ("work", 0)
THREE = Plan("index", [(), (), ("put",), (), ()])
NO_MOVES = ("tell", ["tell"], (), ("tell", 0), ("leave", 0), ("Tell",), ("begin", 0), ("end", 0), ("work",),
            ("work", 1), ("work", -1), ("work", "0"), ("work", False), ("work", None), ("work", [0]), ("work", 0, 0),
            ("deed",), ("deed", 0), ("deed", 0, "none"), ("deed", 0, "read"), ("deed", False, "this"),
            ("deed", -1, "this"), ("deed", 1, "this"), ("deed", "0", "this"), ("deed", 0, "this", ""),
            ("deed", 0, ["this"]), ("deed", {}, []), ("deed", 0, None), ["deed", 0, "this"], None, 0,
            {}, set(), (("tell",),), 1.5)


class MovesTest(unittest.TestCase):
    def expect(self, plan, lag, world, moves, standing, fault=""):
        self.assertEqual(moved(plan, lag, world, moves), (standing, fault))

    def bad(self, number, plan, lag, world, moves):
        with self.assertRaises(BadMove, msg=repr(moves)) as caught:
            moved(plan, lag, world, moves)
        self.assertEqual(caught.exception.number, number, repr(moves))

    def test_no_moves(self):
        self.expect(INDEX_ADD, 1, ("this", 0), [], (0, 0, "before", ("this", 0)))
        self.expect(Plan("column", [()]), 1, "bare", (), (0, 0, "none", "bare"))
        told = moved(INDEX_ADD, 1, ("this", 0), [])
        self.assertIs(type(told), tuple)
        self.assertIs(type(told[0]), tuple)

    def test_tell(self):
        world = ("none", 0)
        self.expect(THREE, 1, world, [TELL], (0, 1, "none", world))
        self.bad(1, THREE, 1, world, [TELL, TELL])
        self.expect(THREE, 2, world, [TELL, TELL], (0, 2, "none", world))
        self.bad(2, THREE, 2, world, [TELL, TELL, TELL])
        self.expect(THREE, 1, world, [TELL, LEAVE, TELL], (1, 2, "none", world))

    def test_tell_not_beyond_the_last_version(self):
        world = ("none", 0)
        self.expect(THREE, 20, world, [TELL] * 4, (0, 4, "none", world))
        self.bad(4, THREE, 20, world, [TELL] * 5)
        self.bad(0, Plan("index", [()]), 1, world, [TELL])

    def test_tell_waits_for_the_job(self):
        world = ("none", 0)
        plan = Plan("index", [(), (), ()], "fill", 1)
        self.expect(plan, 2, world, [TELL], (0, 1, "before", world))
        self.bad(1, plan, 2, world, [TELL, TELL])
        self.bad(2, plan, 2, world, [TELL, LEAVE, TELL])
        self.bad(3, plan, 2, world, [TELL, LEAVE, BEGIN, TELL])
        self.bad(4, plan, 2, world, [TELL, LEAVE, BEGIN, WORK, TELL])
        self.expect(plan, 2, world, [TELL, LEAVE, BEGIN, WORK, END, TELL], (1, 2, "ended", world))
        self.bad(0, Plan("index", [(), ()], "fill", 0), 1, world, [TELL])
        self.expect(Plan("index", [(), ()], "", 0), 1, world, [TELL], (0, 1, "none", world))

    def test_leave(self):
        world = ("none", 0)
        self.bad(0, THREE, 2, world, [LEAVE])
        self.expect(THREE, 2, world, [TELL, LEAVE], (1, 1, "none", world))
        self.bad(2, THREE, 2, world, [TELL, LEAVE, LEAVE])
        self.expect(THREE, 2, world, [TELL, TELL, LEAVE, LEAVE], (2, 2, "none", world))

    def test_begin(self):
        world = ("none", 0)
        plan = Plan("index", [(), (), ()], "fill", 1)
        self.bad(0, plan, 1, world, [BEGIN])
        self.bad(1, plan, 1, world, [TELL, BEGIN])
        self.expect(plan, 1, world, [TELL, LEAVE, BEGIN], (1, 1, (0,), world))
        self.bad(3, plan, 1, world, [TELL, LEAVE, BEGIN, BEGIN])
        self.bad(5, plan, 1, world, [TELL, LEAVE, BEGIN, WORK, END, BEGIN])
        self.bad(0, THREE, 1, world, [BEGIN])

    def test_work_and_end(self):
        plan = Plan("index", [(), ()], "fill", 0)
        world, filled = ("this", 0), ("this", 1)
        self.bad(0, plan, 1, world, [WORK])
        self.bad(0, plan, 1, world, [END])
        self.bad(1, plan, 1, world, [BEGIN, END])
        self.expect(plan, 1, world, [BEGIN, WORK], (0, 0, (1,), filled))
        self.expect(plan, 1, world, [BEGIN, WORK, WORK], (0, 0, (1,), filled))
        self.expect(plan, 1, world, [BEGIN, WORK, END], (0, 0, "ended", filled))
        self.bad(3, plan, 1, world, [BEGIN, WORK, END, WORK])
        self.bad(3, plan, 1, world, [BEGIN, WORK, END, END])

    def test_work_again_after_a_deed(self):
        plan = Plan("index", [()], "fill", 0)
        moves = [BEGIN, WORK, ("deed", 0, "other"), ("deed", 0, "this"), WORK]
        self.expect(plan, 1, ("none", 0), moves, (0, 0, (1,), ("this", 1)))

    def test_work_at_three_parts(self):
        plan = Plan("unique", [(), ()], "fill", 0)
        world, filled = ("none", "this", "none", 0), ("none", "this", "none", 2)
        self.expect(plan, 1, world, [BEGIN], (0, 0, (0, 0, 0), world))
        self.expect(plan, 1, world, [BEGIN, ("work", 2)], (0, 0, (0, 0, 1), world))
        self.expect(plan, 1, world, [BEGIN, ("work", 2), ("work", 1)], (0, 0, (0, 1, 1), filled))
        self.bad(3, plan, 1, world, [BEGIN, ("work", 2), ("work", 1), END])
        self.bad(1, plan, 1, world, [BEGIN, ("work", 3)])
        every = [BEGIN, ("work", 2), ("work", 1), ("work", 0)]
        self.expect(plan, 1, world, every, (0, 0, (1, 1, 1), filled))
        self.expect(plan, 1, world, every + [("work", 2), END], (0, 0, "ended", filled))

    def test_a_job_that_gives_up(self):
        orphan = (0, 1)
        plan = Plan("reference", [(), ()], "check", 0)
        self.expect(plan, 1, orphan, [BEGIN, WORK], None)
        for move in (WORK, END, TELL, LEAVE, BEGIN, ("deed", 0, "erase child"), None):
            self.bad(2, plan, 1, orphan, [BEGIN, WORK, move])
        twice = ("this", "this", "none", 0)
        plan = Plan("unique", [()], "fill", 0)
        self.expect(plan, 1, twice, [BEGIN, ("work", 0), ("work", 1)], None)
        self.bad(3, plan, 1, twice, [BEGIN, ("work", 0), ("work", 1), ("work", 0)])

    def test_deeds(self):
        plan = Plan("index", [(), ("put",), WHOLE])
        self.expect(plan, 1, ("none", 0), [("deed", 0, "this")], (0, 0, "none", ("this", 0)))
        self.expect(plan, 1, ("none", 0), [TELL, ("deed", 0, "this")], (0, 1, "none", ("this", 0)))
        self.expect(plan, 1, ("none", 0), [TELL, ("deed", 1, "this")], (0, 1, "none", ("this", 1)))
        self.bad(0, plan, 1, ("none", 0), [("deed", 1, "this")])
        self.bad(1, plan, 1, ("none", 0), [TELL, ("deed", 2, "this")])
        self.bad(2, plan, 1, ("none", 0), [TELL, LEAVE, ("deed", 0, "this")])
        self.bad(0, plan, 1, ("none", 0), [("deed", 0, "none")])
        self.bad(1, plan, 1, ("none", 0), [TELL, ("deed", 1, "read")])

    def test_deeds_while_the_job_is_under_way(self):
        plan = Plan("column", [(), ("put",)], "fill", 0)
        self.expect(plan, 1, "bare", [BEGIN, ("deed", 0, "erase"), ("deed", 0, "insert"), WORK, ("deed", 0, "erase")],
                    (0, 0, (1,), "none"))

    def test_of_versions_with_the_same_set_the_least_one_does_the_deed(self):
        world, behind = ("none", 0), ("other", 0)
        self.bad(1, THREE, 2, world, [TELL, ("deed", 1, "other")])
        self.expect(THREE, 2, world, [TELL, ("deed", 0, "other")], (0, 1, "none", behind))
        self.expect(THREE, 2, world, [TELL, LEAVE, ("deed", 1, "other")], (1, 1, "none", behind))
        # Versions 1 and 3 have the same set, with another one between.
        self.bad(4, THREE, 2, world, [TELL, TELL, LEAVE, TELL, ("deed", 3, "other")])
        self.expect(THREE, 2, world, [TELL, TELL, LEAVE, TELL, ("deed", 1, "other")], (1, 3, "none", behind))
        self.expect(THREE, 2, world, [TELL, TELL, LEAVE, TELL, LEAVE, ("deed", 3, "other")], (2, 3, "none", behind))

    def test_faults_are_told_at_the_last_move_and_nothing_can_be_done_behind_them(self):
        plan = Plan("index", [(), WHOLE])
        self.expect(plan, 1, ("this", 0), [TELL, ("deed", 1, "read")], (0, 1, "none", ("this", 0)), "missing")
        for move in (("deed", 1, "read"), ("deed", 0, "none"), LEAVE, None):
            self.bad(2, plan, 1, ("this", 0), [TELL, ("deed", 1, "read"), move])
        self.expect(plan, 1, ("other", 0), [TELL, ("deed", 1, "read")], (0, 1, "none", ("other", 0)))
        self.expect(plan, 1, ("other", 0), [TELL, ("deed", 1, "read"), LEAVE], (1, 1, "none", ("other", 0)))

    def test_a_refusal_that_is_no_fault(self):
        plan = Plan("unique", [KEPT])
        world = ("this", "none", "none", 1)
        self.expect(plan, 1, world, [("deed", 0, "this 2"), ("deed", 0, "this 3")], (0, 0, "none", world))

    def test_a_refusal_that_is_a_fault(self):
        plan = Plan("unique", [("put",), KEPT])
        moves = [("deed", 0, "this 1"), ("deed", 0, "none 1"), TELL, ("deed", 1, "this 2")]
        self.expect(plan, 1, ("none", "none", "none", 0), moves, (0, 1, "none", ("none", "none", "none", 1)), "refused")

    def test_other_kinds(self):
        self.expect(MOVE, 1, (1, 0), [TELL, LEAVE, BEGIN, WORK, END, TELL, ("deed", 2, "read"), ("deed", 1, "change")],
                    (1, 2, "ended", (1, 1)))
        self.expect(REFERENCE_ADD, 1, (1, 0), [("deed", 0, "insert child"), TELL, ("deed", 1, "erase child")],
                    (0, 1, "before", (1, 0)))
        self.bad(3, REFERENCE_ADD, 1, (1, 0), [("deed", 0, "insert child"), TELL, ("deed", 0, "erase child"),
                                               ("deed", 0, "erase child")])

    def test_what_is_no_move(self):
        for plan in (INDEX_ADD, HASTY, THREE):
            for move in NO_MOVES:
                self.bad(0, plan, 1, ("none", 0), [move])
                if move != ("deed", 0, "none"):
                    self.bad(1, plan, 1, ("none", 0), [("deed", 0, "this"), move, ("tell",)])
        for move in NO_MOVES:
            if move not in (WORK, ("work", False), ("deed", False, "this")):
                self.bad(2, HASTY, 1, ("none", 0), [("begin",), ("work", 0), move])
        self.bad(1, HASTY, 1, ("none", 0), [("begin",), ("work", False)])
        self.bad(1, UNIQUE_ADD, 1, ("none", "none", "none", 0), [("tell",), ("deed", True, "this 1")])

    def test_bad_lag(self):
        for lag in BAD_LAGS:
            with self.assertRaises(BadLag) as caught:
                moved(INDEX_ADD, lag, ("none", 0), [("no move",)])
            self.assertIs(caught.exception.lag, lag)

    def test_arguments_are_not_changed(self):
        moves = [TELL, ("deed", 0, "this"), LEAVE]
        moved(INDEX_ADD, 1, ("none", 0), moves)
        self.assertEqual(moves, [TELL, ("deed", 0, "this"), LEAVE])


class ModelTest(unittest.TestCase):
    def walk(self, plan, lag):
        """Makes all moves that the model has at each standing that it meets, and some that it does not have."""
        ways = {standing: (standing[3], []) for standing in model.beginnings(plan)}
        queue = list(ways)
        others = [TELL, LEAVE, BEGIN, END] + [("work", part) for part in range(3)]
        for standing in queue[:400]:
            world, way = ways[standing]
            told = model.moves(plan, lag, standing)
            for move, (behind, fault) in told.items():
                expected = None if behind == "off" else behind
                self.assertEqual(moved(plan, lag, world, way + [move]), (expected, fault))
                if behind != "off" and not fault and behind not in ways:
                    ways[behind] = (world, way + [move])
                    queue.append(behind)
            for move in others:
                if move not in told:
                    with self.assertRaises(BadMove) as caught:
                        moved(plan, lag, world, way + [move, None])
                    self.assertEqual(caught.exception.number, len(way))

    def test_moves_are_those_of_the_model(self):
        for number, plan in enumerate(small_plans()):
            if number % 29 == 0:
                self.walk(plan, 1 + number % 3)


if __name__ == "__main__":
    unittest.main()

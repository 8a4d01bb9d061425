"""[24]: whole tables that do what moves at one focus tell."""

import unittest
from random import Random

from openchange.database import Database
from openchange.errors import BadLag
from openchange.judging import judge, moved
from openchange.kinds import KINDS, kind_of
from openchange.plans import Plan
from openchange.playing import played
from openchange.views import view
from tests import model
from tests.samples import (COLUMN_ADD, HASTY, INDEX_ADD, MOVE, REFERENCE_ADD, SAFE_PLANS, WHOLE, WRONG_PLANS,
                           small_plans)

FOCUSES = {"column": 1, "index": (1, 10), "moved": 1, "reference": (1, 1), "whole": 1}
PLAYED_KINDS = [kind for kind in KINDS if kind != "unique"]

# Plans that go wrong by a reading: their last sets leave nothing over.
MISREAD = [
    Plan("column", [(), ("put", "read"), ()]), Plan("whole", [(), ("put", "read"), ("put",)], "fill", 0),
    Plan("index", [(), WHOLE, ("drop",)], "fill", 0), Plan("reference", [(), ("check", "read"), ()]),
    Plan("moved", [("from old", "old"), ("from new", "new"), ()], "copy", 0)]

TELL, LEAVE, BEGIN, WORK, END = ("tell",), ("leave",), ("begin",), ("work", 0), ("end",)


def walks(plan, lag, chance, length):
    """A first world and moves, chosen among all that can be made, up to a fault or to where the job gives up."""
    world = chance.choice(sorted(kind_of(plan.kind).firsts(plan.sets[0]), key=repr))
    standing, moves = model.beginning(plan, world), []
    for _ in range(length):
        told = model.moves(plan, lag, standing)
        if not told:
            break
        # Deeds are many: the job is to come on, too.
        ahead = [move for move in told if move[0] != "deed"]
        move = chance.choice(ahead if ahead and chance.random() < 0.6 else sorted(told))
        moves.append(move)
        standing, fault = told[move]
        if standing == "off" or fault:
            break
    return world, moves


class PlayedTest(unittest.TestCase):
    def check(self, plan, lag, world, moves):
        """Checks what the table of some moves shows, and tells what these lead to."""
        rows, element, events = played(plan, lag, world, moves)
        focus = FOCUSES[plan.kind]
        self.assertEqual(view(plan, lag, rows, element, events, focus), (world, tuple(moves)), (plan.sets, moves))
        table = Database(plan, lag, rows, element)
        wrong = [number for number, _, is_wrong in table.answers(events) if is_wrong]
        standing, fault = moved(plan, lag, world, moves)
        self.assertEqual(wrong, [len(events) - 1] if fault else [])
        if standing is None:
            self.assertEqual(table.phase, "off")
            return "off"
        low, high, phase, behind = standing
        self.assertEqual(sorted(table.servers.values()), list(range(low, high + 1)))
        self.assertEqual((table.high, table.world(focus)), (high, behind))
        if fault:
            return "fault"
        if low == plan.last() and phase in ("none", "ended"):
            left_over = behind not in kind_of(plan.kind).firsts(plan.sets[-1])
            if left_over:
                self.assertIs(table.is_clean(), False, (plan.sets, plan.job, moves))
            return "left over" if left_over else "through"
        return "on the way"

    def check_wrong(self, plans, lags):
        told = {}
        for plan in plans:
            for lag in lags:
                wrong = judge(plan, lag)
                if plan.kind != "unique" and not wrong:
                    found = (plan.kind, self.check(plan, lag, wrong.world, wrong.moves))
                    told[found] = told.get(found, 0) + 1
        return told

    def test_wrong_runs_of_each_kind(self):
        told = self.check_wrong(WRONG_PLANS + MISREAD, (1, 2))
        for kind in PLAYED_KINDS:
            self.assertIn((kind, "fault"), told)
        self.assertIn(("index", "left over"), told)
        self.assertIn(("column", "left over"), told)
        self.assertEqual({found for _, found in told}, {"fault", "left over"})

    def test_all_small_plans(self):
        told = self.check_wrong(small_plans(), (1,))
        self.assertEqual({found for _, found in told}, {"fault", "left over"})
        for kind in PLAYED_KINDS:
            self.assertGreater(told[kind, "fault"], 10)
        for kind in ("column", "index", "moved", "whole"):
            self.assertGreater(told[kind, "left over"], 3)

    def test_walks_of_each_kind(self):
        chance = Random(5)
        told = {}
        for plan in [plan for plan in SAFE_PLANS + WRONG_PLANS if plan.kind != "unique"]:
            for lag in (1, 1, 2, 3):
                for length in range(2, 60, 3):
                    found = (plan.kind, self.check(plan, lag, *walks(plan, lag, chance, length)))
                    told[found] = told.get(found, 0) + 1
        for kind in PLAYED_KINDS:
            for found in ("fault", "through", "on the way"):
                self.assertGreater(told.get((kind, found), 0), 2, (kind, found))
        self.assertGreater(told["reference", "off"], 3)

    def test_safe_plans_end_in_clean_tables(self):
        chance = Random(8)
        ended = 0
        for plan in [plan for plan in SAFE_PLANS if plan.kind != "unique"]:
            for _ in range(40):
                world, moves = walks(plan, 1, chance, 40)
                if self.check(plan, 1, world, moves) == "through":
                    rows, element, events = played(plan, 1, world, moves)
                    table = Database(plan, 1, rows, element)
                    table.answers(events)
                    self.assertIs(table.is_clean(), True)
                    ended += 1
        self.assertGreater(ended, 50)


class EventsTest(unittest.TestCase):
    def events(self, plan, world, moves, lag=1):
        rows, element, events = played(plan, lag, world, moves)
        # The names of the servers are free: here they are told by their versions.
        names, told, high = {}, [], 0
        for event in events:
            high += event == TELL
            if event[0] == "start":
                names[event[1]] = high
            told.append(tuple(names.get(part, part) for part in event))
        return told

    def test_no_moves(self):
        for plan in (HASTY, COLUMN_ADD, MOVE, REFERENCE_ADD):
            for world in kind_of(plan.kind).firsts(plan.sets[0]):
                rows, element, events = played(plan, 1, world, [])
                self.assertEqual([event[0] for event in events], ["start"])
                table = Database(plan, 1, rows, element)
                self.assertEqual(table.world(FOCUSES[plan.kind]), world)

    def test_each_version_has_a_server(self):
        plan = Plan("column", [()] * 4)
        self.assertEqual(self.events(plan, "none", [TELL, TELL, LEAVE, ("deed", 1, "insert"), TELL, LEAVE], lag=2), [
            ("start", 0), TELL, ("start", 1), TELL, ("start", 2), ("stop", 0), ("do", 1, ("write", 1)), TELL,
            ("start", 3), ("stop", 1)])

    def test_the_job_goes_over_the_other_row_ahead_of_its_end(self):
        self.assertEqual(self.events(HASTY, ("this", 0), [BEGIN, WORK, END]), [
            ("start", 0), BEGIN, ("work",), ("work",), END])

    def test_the_job_passes_a_row_that_is_not_there(self):
        self.assertEqual(self.events(HASTY, ("none", 0), [BEGIN, WORK, ("deed", 0, "this"), END]), [
            ("start", 0), BEGIN, ("work",), ("do", 0, ("write", 1, 10)), END])

    def test_the_job_falls_to_come_to_a_row_again(self):
        dropping = Plan("index", [("drop",), WHOLE], "fill", 0)
        self.assertEqual(self.events(dropping, ("this", 0), [BEGIN, WORK, WORK, ("deed", 0, "none"), WORK, END]), [
            ("start", 0), BEGIN, ("work",), ("fall",), ("work",), ("do", 0, ("erase", 1)), ("fall",), ("work",), END])
        self.assertEqual(self.events(HASTY, ("this", 0), [BEGIN, WORK, WORK, END]), [
            ("start", 0), BEGIN, ("work",), ("fall",), ("work",), ("work",), END])

    def test_deeds(self):
        for plan, world, deeds, expected in (
                (Plan("index", [WHOLE]), ("none", 0), ("this", "other", "read", "none"),
                 (("write", 1, 10), ("write", 1, 20), ("read", 10), ("erase", 1))),
                (Plan("column", [("put", "read")]), "none", ("insert", "change", "read", "erase"),
                 (("write", 1), ("write", 1), ("read", 1), ("erase", 1))),
                (Plan("whole", [("put", "read")]), "none", ("insert", "change", "read", "erase"),
                 (("write", 1), ("write", 1), ("read", 1), ("erase", 1))),
                (Plan("moved", [("from old", "old")]), (), ("insert", "change", "read", "erase"),
                 (("write", 1), ("write", 1), ("read", 1), ("erase", 1))),
                (Plan("reference", [("check", "guard", "read")]), (0, 0),
                 ("insert parent", "insert child", "read", "erase child", "erase parent"),
                 (("write parent", 1), ("write child", 1, 1), ("read", 1), ("erase child", 1), ("erase parent", 1)))):
            self.assertEqual(self.events(plan, world, [("deed", 0, deed) for deed in deeds]),
                             [("start", 0)] + [("do", 0, deed) for deed in expected])

    def test_kinds_of_what_is_returned(self):
        moves = [TELL, LEAVE]
        told = played(INDEX_ADD, 1, ("this", 0), moves)
        self.assertEqual([type(part) for part in told], [dict, list, list])
        again = played(INDEX_ADD, 1, ("this", 0), tuple(moves))
        self.assertEqual(told, again)
        for one, other in zip(told, again):
            self.assertIsNot(one, other)
        self.assertEqual(moves, [TELL, LEAVE])
        self.assertIsNone(played(REFERENCE_ADD, 1, (1, 1), [])[1])

    def test_bad_lag(self):
        with self.assertRaises(BadLag):
            played(INDEX_ADD, 0, ("this", 0), [])


if __name__ == "__main__":
    unittest.main()

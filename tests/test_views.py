"""[23]: what a run of a table is at one focus."""

import copy
import unittest

from openchange.changeerrors import BadRows, NotNow
from openchange.database import Database
from openchange.errors import BadLag
from openchange.judging import Wrong, judge, moved
from openchange.plans import Plan
from openchange.views import view
from tests.runs import all_focuses, runs_of
from tests.samples import COLUMN_ADD, HASTY, INDEX_ADD, KEPT, MOVE, REFERENCE_ADD, UNIQUE_REMOVE, WHOLE
from tests.test_plans import BAD_LAGS

TELL, LEAVE, BEGIN, END = ("tell",), ("leave",), ("begin",), ("end",)
WORK, WORK0, WORK1, WORK2 = ("work",), ("work", 0), ("work", 1), ("work", 2)


class SeamTest(unittest.TestCase):
    def check(self, kind, many, length):
        told = {"steps": 0, "wrong": 0, "off": 0, "under way": 0, "ended": 0}
        for plan, lag, rows, element, events in runs_of(kind, 7, many, length):
            first = Database(plan, lag, rows, element)
            table = Database(plan, lag, rows, element)
            answers = table.answers(events)
            wrong = bool(answers) and answers[-1][0] == len(events) - 1 and answers[-1][2]
            faults = [self.at_focus(first, table, plan, lag, view(plan, lag, rows, element, events, focus), focus)
                      for focus in sorted({*all_focuses(kind), *first.focuses(), *table.focuses()})]
            self.assertEqual(any(fault not in ("", None) for fault in faults), wrong, (plan.sets, plan.job, events))
            self.assertEqual(None in faults, table.phase == "off")
            told["wrong"] += wrong
            told["steps"] += len(events)
            if table.phase in told:
                told[table.phase] += 1
        self.assertTrue(told["wrong"] and told["under way"] and told["ended"], told)
        return told

    def at_focus(self, first, table, plan, lag, told, focus):
        """The fault that moved tells at a focus, None where the job gives up; the rest is as the table shows it."""
        world, moves = told
        self.assertIs(type(moves), tuple)
        self.assertEqual(world, first.world(focus))
        standing, fault = moved(plan, lag, world, moves)
        if standing is None:
            return None
        low, high, phase, behind = standing
        self.assertEqual((low, high, behind), (table.low(), table.high, table.world(focus)), (plan.sets, focus, moves))
        if isinstance(phase, tuple):
            self.assertIn(table.phase, ("under way", "off"))
        else:
            self.assertEqual(phase, table.phase)
        return fault

    def test_index(self):
        self.check("index", 300, 40)

    def test_column(self):
        self.check("column", 300, 30)

    def test_whole(self):
        self.check("whole", 300, 30)

    def test_moved(self):
        self.check("moved", 300, 30)

    def test_reference(self):
        self.assertTrue(self.check("reference", 500, 40)["off"])

    def test_unique(self):
        self.assertTrue(self.check("unique", 500, 40)["off"])

    def test_what_a_view_goes_wrong_by_is_a_wrong(self):
        shown = 0
        for plan, lag, rows, element, events in runs_of("index", 11, 300, 40):
            for focus in Database(plan, lag, rows, element).focuses():
                world, moves = view(plan, lag, rows, element, events, focus)
                if moved(plan, lag, world, moves)[1]:
                    self.assertIs(Wrong(world, moves).shows(plan, lag), True)
                    self.assertIs(bool(judge(plan, lag)), False)
                    shown += 1
        self.assertGreater(shown, 3)


class MovesTest(unittest.TestCase):
    def expect(self, plan, rows, events, focus, world, moves, lag=1, element=None):
        self.assertEqual(view(plan, lag, rows, element, events, focus), (world, tuple(moves)))

    def test_nothing_happens(self):
        self.expect(INDEX_ADD, {1: 5}, [], (1, 5), ("this", 0), [])
        self.expect(INDEX_ADD, {1: 5}, [], (2, 5), ("none", 0), [])
        told = view(INDEX_ADD, 1, {1: 5}, None, [], (1, 5))
        self.assertEqual((type(told), type(told[1])), (tuple, tuple))

    def test_servers_move_and_stop(self):
        plan = Plan("index", [(), (), ()])
        start, stop, move = [(word, "a") for word in ("start", "stop", "move")]
        # Without servers the least version is the newest one.
        self.expect(plan, {}, [TELL, TELL], (1, 1), ("none", 0), [TELL, LEAVE, TELL, LEAVE])
        self.expect(plan, {}, [start, TELL, stop], (1, 1), ("none", 0), [TELL, LEAVE])
        self.expect(plan, {}, [start, TELL, move, TELL], (1, 1), ("none", 0), [TELL, LEAVE, TELL])
        self.expect(plan, {}, [start, TELL, ("start", "b"), move, TELL], (1, 1), ("none", 0), [TELL, LEAVE, TELL])
        self.expect(plan, {}, [start, TELL, ("start", "b"), ("stop", "b")], (1, 1), ("none", 0), [TELL])
        self.expect(plan, {}, [start, TELL, TELL, stop], (1, 1), ("none", 0), [TELL, TELL, LEAVE, LEAVE], lag=2)
        self.expect(plan, {}, [start, TELL, TELL, move, move], (1, 1), ("none", 0), [TELL, TELL, LEAVE, LEAVE], lag=2)

    def test_index_deeds(self):
        plan = Plan("index", [WHOLE])
        do = [("do", "a", deed) for deed in (
            ("write", 1, 5), ("write", 1, 5), ("write", 1, 6), ("write", 1, 7), ("read", 5), ("read", 6), ("erase", 1),
            ("erase", 1), ("write", 2, 5), ("read", 5))]
        this, other, none, read = [("deed", 0, word) for word in ("this", "other", "none", "read")]
        events = [("start", "a")] + do
        self.expect(plan, {}, events, (1, 5), ("none", 0), [this, other, read, none, read])
        self.expect(plan, {}, events, (1, 6), ("none", 0), [other, this, other, read, none])
        self.expect(plan, {}, events, (1, 7), ("none", 0), [other, this, none])
        self.expect(plan, {}, events, (1, 8), ("none", 0), [other, none])
        self.expect(plan, {}, events, (2, 5), ("none", 0), [read, this, read])
        self.expect(plan, {}, events, (9, 5), ("none", 0), [read, read])

    def test_readings_by_servers_without_the_duty_are_none(self):
        events = [("start", "a"), ("do", "a", ("read", 5)), ("do", "a", ("write", 1, 5)), ("do", "a", ("read", 5))]
        self.expect(INDEX_ADD, {}, events, (1, 5), ("none", 0), [("deed", 0, "this")])
        events = [("start", "a"), ("do", "a", ("read", 1))]
        self.expect(Plan("column", [("put",)]), [1], events, 1, "full", [])
        self.expect(Plan("column", [("put", "read")]), [1], events, 1, "full", [("deed", 0, "read")])
        self.expect(Plan("moved", [("old",)]), [1], events, 1, (1, 0), [])
        self.expect(Plan("moved", [("from old", "old")]), [1], events, 1, (1, 0), [("deed", 0, "read")])
        self.expect(Plan("reference", [()]), ([], {1: 2}), events, (2, 1), (0, 1), [])
        self.expect(Plan("unique", [("drop", "put")]), {1: 1}, events, 1, ("this", "none", "none", 1), [])

    def test_of_versions_with_the_same_set_the_least_one_does_the_deed(self):
        plan = Plan("column", [(), ("put",), ("put",), (), ("put",)])
        events = [("start", "a"), TELL, ("start", "b"), TELL, ("start", "c"), TELL, ("start", "d")]
        events += [("do", name, ("write", 1)) for name in "abcd"]
        events += [("stop", "a")] + [("do", name, ("write", 1)) for name in "bcd"]
        events += [("stop", "b"), TELL, ("start", "e")] + [("do", name, ("write", 1)) for name in "cde"]
        self.expect(plan, [1], events, 1, "bare", [TELL, TELL, TELL] + [
            ("deed", version, "change") for version in (0, 1, 1, 0)] + [LEAVE] + [
            ("deed", version, "change") for version in (1, 1, 3)] + [LEAVE, TELL] + [
            ("deed", version, "change") for version in (2, 3, 2)], lag=3)

    def test_a_job_goes_over_keys(self):
        plan = Plan("index", [("drop", "put")], "fill", 0)
        rows = {2: 5, 4: 6}
        events = [BEGIN, WORK, WORK, END]
        self.expect(plan, rows, events, (2, 5), ("this", 0), [BEGIN, WORK0, END], element=[])
        self.expect(plan, rows, events, (2, 6), ("other", 0), [BEGIN, WORK0, END], element=[])
        self.expect(plan, rows, events[:2], (2, 5), ("this", 0), [BEGIN, WORK0], element=[])
        self.expect(plan, rows, events[:2], (0, 5), ("none", 0), [BEGIN, WORK0], element=[])
        self.expect(plan, rows, events[:2], (3, 5), ("none", 0), [BEGIN], element=[])
        self.expect(plan, rows, events[:3], (3, 5), ("none", 0), [BEGIN, WORK0], element=[])
        self.expect(plan, rows, events[:3], (5, 5), ("none", 0), [BEGIN], element=[])
        self.expect(plan, rows, events, (5, 5), ("none", 0), [BEGIN, WORK0, END], element=[])
        self.expect(plan, rows, events, (1000000, 5), ("none", 0), [BEGIN, WORK0, END], element=[])
        self.expect(plan, {}, [BEGIN, END], (0, 0), ("none", 0), [BEGIN, WORK0, END])

    def test_a_job_falls(self):
        plan = Plan("column", [("put",)], "fill", 0)
        events = [BEGIN, WORK, ("save",), WORK, ("fall",), WORK, WORK, END]
        self.expect(plan, [1, 2, 3], events, 1, "bare", [BEGIN, WORK0, END], element=[])
        self.expect(plan, [1, 2, 3], events, 2, "bare", [BEGIN, WORK0, WORK0, END], element=[])
        self.expect(plan, [1, 2, 3], events, 3, "bare", [BEGIN, WORK0, END], element=[])
        events = [BEGIN, WORK, WORK, ("fall",), WORK, WORK, WORK, ("fall",), WORK, WORK, WORK, END]
        self.expect(plan, [1, 2, 3], events, 1, "bare", [BEGIN, WORK0, WORK0, WORK0, END], element=[])
        self.expect(plan, [1, 2, 3], events, 3, "bare", [BEGIN, WORK0, WORK0, END], element=[])

    def test_a_key_that_is_erased_on_the_way(self):
        plan = Plan("column", [("put",)], "fill", 0)
        events = [("start", "a"), BEGIN, WORK, ("do", "a", ("erase", 2)), END]
        self.expect(plan, [1, 2], events, 2, "bare", [BEGIN, ("deed", 0, "erase"), WORK0, END], element=[])

    def test_the_parts_of_unique(self):
        plan = Plan("unique", [("drop", "put")], "fill", 0)
        events = [BEGIN, WORK, WORK, END]
        world = ("other", "none", "this", 0)
        self.expect(plan, {1: 4, 3: 5}, events, 5, world, [BEGIN, WORK0, WORK1, WORK2, END], element={})
        self.expect(plan, {1: 4, 3: 5}, events[:2], 5, world, [BEGIN, WORK0], element={})
        self.expect(plan, {2: 5}, [BEGIN, WORK], 5, ("none", "this", "none", 0), [BEGIN, WORK0, WORK1], element={})
        self.expect(plan, {2: 5}, [BEGIN, WORK, END], 5, ("none", "this", "none", 0), [BEGIN, WORK0, WORK1, WORK2, END],
                    element={})
        self.expect(plan, {2: 5}, [BEGIN, WORK, ("fall",), WORK, END], 7, ("none", "other", "none", 0),
                    [BEGIN, WORK0, WORK1, WORK0, WORK1, WORK2, END], element={})
        self.expect(plan, {}, [BEGIN, END], 7, ("none", "none", "none", 0), [BEGIN, WORK0, WORK1, WORK2, END])

    def test_emptying_at_the_end(self):
        events = [BEGIN, WORK, ("start", "a"), ("do", "a", ("write", 1, 5)), END]
        plan = Plan("unique", [("drop", "put")], "empty", 0)
        self.expect(plan, {2: 4}, events, 5, ("none", "other", "none", 0),
                    [BEGIN, WORK0, WORK1, ("deed", 0, "this 1"), WORK2, END])
        self.assertEqual(moved(plan, 1, *view(plan, 1, {2: 4}, None, events, 5))[0],
                         (0, 0, "ended", ("this", "other", "none", 0)))

    def test_unique_deeds(self):
        plan = Plan("unique", [KEPT])
        do = [("do", "a", deed) for deed in (
            ("write", 1, 5), ("write", 2, 5), ("write", 1, 6), ("write", 1, 7), ("read", 5), ("write", 2, 7),
            ("erase", 1), ("erase", 1))]
        events = [("start", "a")] + do
        for value, words in ((5, ("this 1", "this 2", "other 1", "read", "none 1")),
                             (6, ("other 1", "this 1", "other 1", "none 1")),
                             (7, ("other 1", "this 1", "this 2", "none 1"))):
            self.expect(plan, {}, events, value, ("none", "none", "none", 0), [("deed", 0, word) for word in words])

    def test_reference_deeds(self):
        plan = Plan("reference", [("check", "guard", "read")])
        do = [("do", "a", deed) for deed in (
            ("write child", 1, 2), ("write parent", 2), ("write parent", 2), ("write child", 1, 2),
            ("write child", 1, 3), ("erase parent", 2), ("read", 1), ("read", 4), ("erase child", 1),
            ("erase child", 1), ("erase parent", 2))]
        events = [("start", "a")] + do
        for focus, words in (((2, 1), ("insert parent", "insert child", "read", "erase child", "erase parent")),
                             ((3, 1), ("read",)), ((2, 4), ("insert parent", "read", "erase parent"))):
            self.expect(plan, ([], {}), events, focus, (0, 0), [("deed", 0, word) for word in words])
        # The parent is kept for another child: at this focus it could have gone, but it did not.
        events = [("start", "a"), ("do", "a", ("erase child", 4)), ("do", "a", ("erase parent", 2))]
        self.expect(plan, ([2], {1: 2, 4: 2}), events, (2, 4), (1, 1), [("deed", 0, "erase child")])

    def test_deeds_of_rows_with_columns_and_places(self):
        done = ("write", "write", "read", "erase", "erase", "write")
        events = [("start", "a")] + [("do", "a", (word, 1)) for word in done]
        words = [("deed", 0, word) for word in ("insert", "change", "read", "erase", "insert")]
        for plan, world in ((Plan("column", [("put", "read")]), "none"), (Plan("whole", [("put", "read")]), "none"),
                            (Plan("moved", [("from old", "old")]), ())):
            self.expect(plan, [], events, 1, world, words)
            self.expect(plan, [], events, 2, world, [])

    def test_it_ends_behind_a_fault(self):
        events = [("start", "a"), TELL, ("move", "a"), ("do", "a", ("read", 5)), ("do", "a", ("write", 1, 6)),
                  ("do", "a", ("read", 5)), ("do", "a", ("erase", 2))]
        plan = Plan("index", [(), WHOLE])
        moves = [TELL, LEAVE, ("deed", 1, "read")]
        self.expect(plan, {1: 5, 2: 6}, events, (1, 5), ("this", 0), moves)
        self.expect(plan, {1: 5, 2: 6}, events, (2, 5), ("other", 0),
                    moves + [("deed", 1, "read"), ("deed", 1, "none")])
        self.assertEqual(moved(plan, 1, *view(plan, 1, {1: 5, 2: 6}, None, events, (1, 5)))[1], "missing")

    def test_it_ends_where_the_job_gives_up(self):
        plan = Plan("reference", [()], "check", 0)
        rows = ([2], {1: 2, 3: 4})
        events = [("start", "a"), BEGIN, WORK, WORK, ("do", "a", ("erase child", 3)), ("do", "a", ("erase child", 1))]
        self.expect(plan, rows, events, (4, 3), (0, 1), [BEGIN, WORK0])
        self.expect(plan, rows, events, (2, 3), (1, 0), [BEGIN, WORK0])
        self.expect(plan, rows, events, (2, 1), (1, 1), [BEGIN, WORK0, ("deed", 0, "erase child")])
        self.expect(plan, rows, events, (2, 9), (1, 0), [BEGIN])
        plan = Plan("unique", [("drop",)], "fill", 0)
        events = [("start", "a"), BEGIN, WORK, WORK, ("do", "a", ("erase", 2))]
        self.expect(plan, {1: 5, 2: 5}, events, 5, ("this", "this", "none", 0), [BEGIN, WORK0, WORK1])
        self.expect(plan, {1: 5, 2: 5}, events, 6, ("other", "other", "none", 0),
                    [BEGIN, WORK0, WORK1, ("deed", 0, "none 2")])


class RefusedTest(unittest.TestCase):
    def test_bad_lag_and_rows(self):
        for lag in BAD_LAGS:
            with self.assertRaises(BadLag) as caught:
                view(INDEX_ADD, lag, None, None, [None], (1, 1))
            self.assertIs(caught.exception.lag, lag)
        for rows, element, focus in ((None, None, None), ({}, 5, None), ({}, [(5, 1)], (1, 5))):
            with self.assertRaises(BadRows) as caught:
                view(INDEX_ADD, 1, rows, element, [None], (1, 1))
            self.assertEqual(caught.exception.focus, focus)

    def test_not_now(self):
        for event in (("move", "a"), ("leave",), None, ["tell"], ("do", "a", ("write", 1)), ("work",), 0):
            for ahead in ([], [TELL], [("start", "b"), TELL]):
                with self.assertRaises(NotNow) as caught:
                    view(INDEX_ADD, 1, {1: 5}, None, ahead + [event, ("end",)], (1, 5))
                self.assertIs(caught.exception.event, event)

    def test_not_now_behind_the_last_move(self):
        events = [("start", "a"), TELL, ("move", "a"), ("do", "a", ("read", 5)), ("stop", "b")]
        with self.assertRaises(NotNow) as caught:
            view(Plan("index", [(), WHOLE]), 1, {1: 5}, None, events, (1, 5))
        self.assertEqual(caught.exception.event, ("stop", "b"))

    def test_arguments_are_not_changed(self):
        for plan, rows, element, word, focus in (
                (HASTY, {1: 5}, [], "erase", (1, 5)), (UNIQUE_REMOVE, {1: 5}, {5: 1}, "erase", 5),
                (COLUMN_ADD, [1], [], "erase", 1), (MOVE, [1], ([1], []), "erase", 1),
                (REFERENCE_ADD, ([1], {2: 1}), None, "erase parent", (1, 2))):
            events = [("start", "a"), ("do", "a", (word, 1)), ("stop", "a")]
            given = copy.deepcopy((rows, element, events))
            view(plan, 1, rows, element, events, focus)
            self.assertEqual((rows, element, events), given)


if __name__ == "__main__":
    unittest.main()

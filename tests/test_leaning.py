"""[38] to [40]: an index on a column that changes, too."""

import unittest
from itertools import product
from random import Random

from openchange.errors import BadLag, BadLean
from openchange.leancourses import LeanKind
from openchange.leaning import Leaning, LeanSafe, LeanWrong, LeastOffset, judge_lean, least_offset
from openchange.parted import PartedPlan
from openchange.plans import Plan, held
from openchange.recipes import recipe
from tests import leanmodel
from tests.samples import (COLUMN_ADD, COLUMN_REMOVE, INDEX_ADD, INDEX_REMOVE, MOVE, WHOLE, WHOLE_ADD, WHOLE_REMOVE,
                           plans_of, sets_of)
from tests.test_plans import BAD_LAGS

COLUMNS = [COLUMN_ADD, COLUMN_REMOVE, WHOLE_ADD, WHOLE_REMOVE]
INDEXES = [INDEX_ADD, INDEX_REMOVE]
FULL = ("put", "read")
TELL, LEAVE = ("tell",), ("leave",)

# An index that comes at once, without a job.
SUDDEN = Plan("index", [(), WHOLE])


def leaning_or_none(column, index, offset):
    try:
        return Leaning(column, index, offset)
    except BadLean:
        return None


def some_leanings(seed, many):
    chance = Random(seed)
    columns = [plan for kind in ("column", "whole") for number in (1, 2, 3) for plan in plans_of(kind, number)]
    indexes = plans_of("index", 1) + plans_of("index", 2) + plans_of("index", 3, 11)
    told = []
    while len(told) < many:
        column = chance.choice(COLUMNS if chance.random() < 0.4 else columns)
        index = chance.choice(INDEXES if chance.random() < 0.4 else indexes)
        made = leaning_or_none(column, index, chance.choice((0, 0, 1, 2, 3)))
        told += [made] if made else []
    return told


class LeaningTest(unittest.TestCase):
    def test_attributes(self):
        leaning = Leaning(COLUMN_ADD, INDEX_ADD, 2)
        self.assertEqual((leaning.column, leaning.index, leaning.offset), (COLUMN_ADD, INDEX_ADD, 2))
        self.assertEqual(Leaning(offset=0, index=INDEX_ADD, column=WHOLE_ADD).column, WHOLE_ADD)

    def test_last(self):
        for column, index, offset, expected in (
                (COLUMN_ADD, INDEX_ADD, 0, 3), (COLUMN_ADD, INDEX_ADD, 2, 5), (COLUMN_ADD, INDEX_ADD, 40, 43),
                (Plan("column", [()] * 9), INDEX_ADD, 2, 8), (Plan("column", [()] * 9), INDEX_ADD, 6, 9),
                (Plan("column", [()]), Plan("index", [()]), 0, 0), (Plan("column", [()]), Plan("index", [()]), 4, 4)):
            self.assertEqual(Leaning(column, index, offset).last(), expected)

    def test_sets_at(self):
        leaning = Leaning(COLUMN_ADD, INDEX_ADD, 2)
        self.assertEqual([leaning.sets_at(version) for version in range(6)], [
            ((), ()), (("put",), ()), (FULL, ()), (FULL, ("drop",)), (FULL, ("drop", "put")), (FULL, WHOLE)])
        leaning = Leaning(Plan("whole", [FULL, FULL, ("put",), ()], "strip", 3), INDEX_REMOVE, 0)
        self.assertEqual([leaning.sets_at(version) for version in range(4)], [
            (FULL, WHOLE), (FULL, ("drop", "put")), (("put",), ()), ((), ())])
        for leaning in some_leanings(4, 40):
            for version in range(leaning.last() + 1):
                self.assertEqual(leaning.sets_at(version), leanmodel.sets_at(leaning, version))

    def refused(self, part, *told):
        with self.assertRaises(BadLean) as caught:
            Leaning(*told)
        self.assertEqual(caught.exception.part, part)

    def test_refused(self):
        parted = PartedPlan([()], "", 0, ("ahead", "behind"))
        for column in (None, "column", INDEX_ADD, MOVE, COLUMN_ADD.sets, recipe("unique", "add"), parted):
            self.refused("column", column, None, None)
        for index in (None, "index", COLUMN_ADD, recipe("unique", "add"), recipe("reference", "add"), parted):
            self.refused("index", COLUMN_ADD, index, None)
        for offset in (-1, 41, None, True, False, "1", 1.0, (1,), 10 ** 6000):
            self.refused("offset", COLUMN_ADD, INDEX_ADD, offset)

    def test_first_worlds(self):
        met = {}
        for kind, column, index in product(("column", "whole"), sets_of("column"), sets_of("index")):
            firsts = LeanKind(kind).firsts((column, index))
            self.assertEqual(set(firsts), set(leanmodel.firsts(kind, (column, index))), (kind, column, index))
            met[len(firsts)] = met.get(len(firsts), 0) + 1
        self.assertEqual(sorted(met), [0, 2, 3, 4, 6, 8])

    def test_deeds(self):
        for kind, column, index in product(("column", "whole"), sets_of("column"), sets_of("index")):
            for world in LeanKind(kind).worlds():
                told = LeanKind(kind).deeds(world, (column, index))
                expected = leanmodel.deeds(kind, world, (column, index))
                self.assertEqual(sorted(told), sorted((deed, *expected[deed]) for deed in expected))

    def test_no_first_worlds(self):
        # Plans that have first worlds have some together, too, so one of them is changed by hand.
        for column, index in product(COLUMNS, INDEXES):
            changed = Plan("index", index.sets)
            changed.sets = (("read",), *changed.sets[1:])
            if column.sets[0]:
                self.refused("first", column, changed, 0)
            changed = Plan(column.kind, column.sets)
            changed.sets = (("read",), *changed.sets[1:])
            self.refused("first", changed, index, 3)
        for kind, column, index in product(("column", "whole"), [(), ("put",), FULL], sets_of("index")):
            if index in ((), ("drop",), ("put",), ("drop", "put"), WHOLE):
                self.assertIsNotNone(leaning_or_none(Plan(kind, [column]), Plan("index", [index]), 0))


class JudgeTest(unittest.TestCase):
    def check(self, leaning, lag):
        told = judge_lean(leaning, lag)
        self.assertIs(told.shows(leaning, lag), True)
        number, met = leanmodel.fewest(leaning, lag)
        self.assertIs(bool(told), number is None)
        if told:
            self.assertIs(type(told), LeanSafe)
            self.assertEqual(set(told.table), met)
        else:
            self.assertIs(type(told), LeanWrong)
            self.assertEqual(len(told.moves), number)
            self.assertIn(told.world, leanmodel.firsts(leaning.column.kind, leanmodel.sets_at(leaning, 0)))
            standing, fault = leanmodel.beginning(leaning, told.world), ""
            for move in told.moves:
                self.assertEqual(fault, "")
                standing, fault = leanmodel.moves(leaning, lag, standing)[move]
            self.assertTrue(fault or leanmodel.is_left_over(leaning, standing))
        return told

    def test_recipes(self):
        for column, index, offset in product(COLUMNS, INDEXES, range(5)):
            self.check(Leaning(column, index, offset), 1)
        for offset in range(3):
            self.assertTrue(judge_lean(Leaning(COLUMN_ADD, INDEX_ADD, offset), 1))
            self.assertTrue(judge_lean(Leaning(WHOLE_REMOVE, INDEX_REMOVE, offset), 1))

    def test_greater_lags(self):
        for lag in (2, 3):
            for column, index, offset in product(COLUMNS, INDEXES, (0, 2)):
                self.check(Leaning(column, index, offset), lag)
                self.check(Leaning(held(column, lag), held(index, lag), offset), lag)

    def test_many(self):
        told = {True: 0, False: 0}
        faults = {}
        for leaning in some_leanings(1, 1500):
            paper = self.check(leaning, 1)
            told[bool(paper)] += 1
            if not paper:
                word = paper.moves[-1][-1] if paper.moves[-1][0] == "deed" else paper.moves[-1][0]
                faults[word] = faults.get(word, 0) + 1
        self.assertGreater(min(told.values()), 150, told)
        for word in ("read column", "read index", "leave", "end"):
            self.assertIn(word, faults)

    def test_bad_lag(self):
        leaning = Leaning(COLUMN_ADD, INDEX_ADD, 0)
        for lag in BAD_LAGS:
            for called in (lambda: judge_lean(leaning, lag), lambda: LeanSafe(()).shows(leaning, lag),
                           lambda: LeanWrong(None, ()).shows(leaning, lag)):
                with self.assertRaises(BadLag) as caught:
                    called()
                self.assertIs(caught.exception.lag, lag)


class MovesTest(unittest.TestCase):
    """Moves, told by whether a reading behind them has a fault, or something is left over."""

    def expect(self, expected, leaning, world, moves, lag=1):
        self.assertIs(LeanWrong(world, moves).shows(leaning, lag), expected, (world, moves))

    def test_a_row_that_becomes_this_one(self):
        leaning = Leaning(Plan("column", [("put",)]), Plan("index", [("drop", "put"), WHOLE, ()]), 0)
        ahead = [TELL, ("deed", 0, "this"), LEAVE]
        read = ("deed", 1, "read index")
        self.expect(False, leaning, ("none", 0), ahead + [read])
        leaning = Leaning(Plan("column", [("put",)]), Plan("index", [("drop",), WHOLE, ()]), 0)
        self.expect(True, leaning, ("none", 0), ahead + [read])
        self.expect(True, leaning, ("bare", 0), ahead + [read])
        self.expect(False, leaning, ("bare", 0), ahead)
        self.expect(False, leaning, ("none", 0), [TELL, ("deed", 0, "other"), LEAVE, read])
        leaning = Leaning(Plan("column", [("put",)]), Plan("index", [("put",), WHOLE, ()]), 0)
        for row in ("none", "other"):
            self.expect(True, leaning, ("this", 1), [TELL, ("deed", 0, row), LEAVE, read])
            self.expect(False, leaning, ("this", 0), [TELL, ("deed", 0, row), LEAVE, read])

    def test_a_row_that_becomes_bare(self):
        leaning = Leaning(Plan("whole", [("put",), ()]), Plan("index", [("put",), ("drop",), ("read",), ()]), 0)
        moves = [TELL, LEAVE, ("deed", 1, "bare")]
        self.expect(False, leaning, ("this", 1), moves + [TELL, ("deed", 2, "read index")])
        leaning = Leaning(Plan("whole", [("put",), ()]), Plan("index", [("put",), ("put",), ("read",), ()]), 0)
        self.expect(True, leaning, ("this", 1), [TELL, LEAVE, ("deed", 1, "bare"), TELL, ("deed", 2, "read index")])
        # Servers of a column write their own columns alone.
        leaning = Leaning(Plan("column", [("put",), ()]), Plan("index", [("put",), ("put",), ("read",), ()]), 0)
        self.expect(False, leaning, ("this", 1), [TELL, LEAVE, ("deed", 1, "bare"), TELL, ("deed", 2, "read index")])

    def test_reading_the_column(self):
        leaning = Leaning(Plan("column", [(), ("read",), ()]), Plan("index", [()]), 0)
        self.expect(True, leaning, ("bare", 0), [TELL, ("deed", 1, "read column")])
        self.expect(False, leaning, ("none", 0), [TELL, ("deed", 1, "read column")])
        self.expect(False, leaning, ("bare", 0), [("deed", 0, "read column")])
        self.expect(False, leaning, ("this", 0), [TELL, ("deed", 1, "read column")])

    def test_of_versions_with_the_same_pair_the_least_one(self):
        leaning = Leaning(Plan("column", [(), ("read",), ("read",)]), Plan("index", [(), ("drop",), ()]), 1)
        ahead = [TELL, LEAVE, TELL]
        self.expect(True, leaning, ("bare", 0), ahead + [("deed", 1, "read column")])
        self.expect(True, leaning, ("bare", 0), ahead + [("deed", 2, "read column")])
        leaning = Leaning(Plan("column", [(), ("read",), ("read",)]), Plan("index", [(), ("drop",), ()]), 2)
        self.expect(True, leaning, ("bare", 0), ahead + [("deed", 1, "read column")])
        self.expect(False, leaning, ("bare", 0), ahead + [("deed", 2, "read column")])
        self.expect(True, leaning, ("bare", 0), ahead + [LEAVE, ("deed", 2, "read column")])

    def test_the_job_of_the_column(self):
        leaning = Leaning(Plan("column", [("put",), ()], "fill", 0), Plan("index", [("drop",), ("read",), ()]), 0)
        begin, end = ("begin", "column"), ("end", "column")
        for row in ("this", "other"):
            moves = [begin, ("work", "column", row), end, TELL, ("deed", 1, "read index")]
            self.expect(row == "this", leaning, ("bare", 0), moves)
        # With the duty to put for the index, it puts the entry.
        putting = Leaning(Plan("column", [("put",), ()], "fill", 0), Plan("index", [("put",), ("read",), ()]), 0)
        self.expect(False, putting, ("bare", 0), [begin, ("work", "column", "this"), end, TELL,
                                                  ("deed", 1, "read index")])
        read = ("deed", 1, "read index")
        for moves in ([begin, end, TELL, read], [begin, TELL, read], [TELL, read], [end, TELL, read],
                      [begin, ("work", "column", ""), end, TELL, read], [begin, begin, TELL, read],
                      [begin, ("work", "column", "bare"), end, TELL, read], [begin, ("work", "index", ""), end, TELL,
                                                                             read],
                      [begin, ("work", "column"), end, TELL, read], [("begin",), ("work", 0), ("end",), TELL, read],
                      [("begin", "index"), ("work", "column", "this"), end, TELL, read],
                      [begin, ("work", "column", "this"), ("end", "index"), TELL, read],
                      [begin, ("work", "column", "this"), TELL, read]):
            self.expect(False, leaning, ("bare", 0), moves)
        # Over rows that are there already it goes without a change, and again.
        again = [begin, ("work", "column", "this"), ("work", "column", ""), ("work", "column", ""), end, TELL, read]
        self.expect(True, leaning, ("bare", 0), again)
        self.expect(False, leaning, ("bare", 0), again[:2] + [("work", "column", "this")] + again[4:])
        self.expect(True, leaning, ("this", 0), [begin, ("work", "column", ""), end, TELL, read])

    def test_the_version_of_the_job_of_the_column(self):
        # It does as servers of its own version, not as those of the first or the last one.
        for version in range(3):
            for duty in range(3):
                sets = [("drop",)] * 3 + [("read",), ()]
                sets[duty] = ("put",)
                leaning = Leaning(Plan("column", [("put",)] * 3, "fill", version), Plan("index", sets), 0)
                moves = [TELL, LEAVE] * version + [("begin", "column"), ("work", "column", "this"), ("end", "column")]
                moves += [TELL, LEAVE] * (3 - version) + [("deed", 3, "read index")]
                self.expect(version != duty, leaning, ("bare", 0), moves)

    def test_stripping(self):
        for duty, row in product(("drop", "put"), ("this", "other")):
            leaning = Leaning(Plan("column", [("put",), ()], "strip", 0), Plan("index", [(duty,), ("read",), ()]), 0)
            moves = [("begin", "column"), ("work", "column", ""), ("end", "column"), TELL, ("deed", 1, "read index")]
            self.expect(row == "other" or duty == "put", leaning, (row, 1), moves)
            self.expect(False, leaning, ("none", 0), moves)
            moves[1] = ("work", "column", row)
            self.expect(False, leaning, (row, 1), moves)

    def test_the_job_of_the_index(self):
        for job, row, entry, fault in (("fill", "this", 0, False), ("fill", "bare", 0, False),
                                       ("clean", "bare", 1, False),
                                       ("clean", "this", 0, True), ("fill", "bare", 1, True), ("rebuild", "other", 1,
                                                                                               False),
                                       ("rebuild", "this", 0, False), ("empty", "this", 1, True)):
            leaning = Leaning(Plan("column", [("put",)]), Plan("index", [("put",), ("read",), ()], job, 0), 2)
            moves = [TELL, LEAVE] * 2 + [("begin", "index"), ("work", "index", ""), ("end", "index"), TELL,
                                         ("deed", 3, "read index")]
            self.expect(fault, leaning, (row, entry), moves)
            moves[5] = ("work", "index", row)
            self.expect(False, leaning, (row, entry), moves)

    def test_the_version_of_the_job_of_the_index(self):
        leaning = Leaning(Plan("column", [("put",)]), Plan("index", [("put",), ("put",), ("read",), ()], "clean", 1), 1)
        work = [("begin", "index"), ("work", "index", ""), ("end", "index")]
        read = ("deed", 3, "read index")
        self.expect(True, leaning, ("this", 0), [TELL, LEAVE, TELL, LEAVE] + work + [TELL, read])
        self.expect(False, leaning, ("this", 0), [TELL, LEAVE] + work + [TELL, LEAVE, TELL, read])
        self.expect(False, leaning, ("this", 0), [TELL, LEAVE, TELL] + work + [LEAVE, TELL, read])
        self.expect(False, leaning, ("this", 0), [TELL, LEAVE, TELL, LEAVE, TELL, read])

    def test_both_jobs_in_one_version(self):
        leaning = Leaning(Plan("column", [("put",)], "fill", 0), Plan("index", [("drop", "put"), WHOLE, ()], "fill",
                                                                      0), 0)
        column = [("begin", "column"), ("work", "column", "other"), ("end", "column")]
        index = [("begin", "index"), ("work", "index", ""), ("end", "index")]
        self.expect(False, leaning, ("this", 0), index + [TELL, ("deed", 1, "read index")])
        mixed = [column[0], index[0], ("work", "column", ""), index[1], index[2], column[2]]
        for moves in (column + index, index + column, mixed):
            self.expect(False, leaning, ("bare", 0), moves + [TELL, LEAVE, ("deed", 1, "read index")])
        ghosts = Leaning(Plan("column", [("put",)], "fill", 0), Plan("index", [("drop", "put"), WHOLE, ()], "clean",
                                                                     0), 0)
        for moves in (index + [("begin", "column"), ("work", "column", ""), ("end", "column")], mixed):
            self.expect(True, ghosts, ("this", 0), moves + [TELL, LEAVE, ("deed", 1, "read index")])

    def test_left_over(self):
        leaning = Leaning(Plan("column", [("put",), ()]), Plan("index", [()]), 0)
        self.expect(True, leaning, ("this", 0), [TELL, LEAVE])
        self.expect(False, leaning, ("this", 0), [TELL])
        self.expect(False, leaning, ("bare", 0), [TELL, LEAVE])
        # As long as a job has not ended, nothing is left over.
        leaning = Leaning(Plan("column", [("put",), ()]), Plan("index", [(), ()], "clean", 1), 0)
        job = [("begin", "index"), ("work", "index", ""), ("end", "index")]
        for many in range(4):
            self.expect(many == 3, leaning, ("this", 0), [TELL, LEAVE] + job[:many])
        leaning = Leaning(Plan("column", [("put",), ()], "strip", 0), Plan("index", [(), ()], "clean", 1), 0)
        first = [("begin", "column"), ("work", "column", ""), ("end", "column"), TELL, LEAVE]
        self.expect(False, leaning, ("this", 0), first + job)
        leaning = Leaning(Plan("column", [("put",), ()], "strip", 0), Plan("index", [(), ()], "clean", 1), 0)
        self.expect(True, leaning, ("this", 0), first[:3] + [("deed", 0, "this")] + first[3:] + job)

    def test_the_lag(self):
        leaning = Leaning(Plan("column", [("put",), (), ()]), Plan("index", [()]), 0)
        moves = [TELL, TELL, LEAVE, LEAVE]
        self.expect(True, leaning, ("this", 0), moves, 2)
        self.expect(False, leaning, ("this", 0), moves, 1)
        self.expect(False, leaning, ("this", 0), [TELL, TELL, TELL, LEAVE, LEAVE, LEAVE], 20)


class PapersTest(unittest.TestCase):
    def test_attributes_and_equality(self):
        table, moves = [(0, 0, (), ("none", 0))], [TELL]
        safe, wrong = LeanSafe(table), LeanWrong(("none", 0), moves)
        table.clear()
        moves.clear()
        self.assertEqual((safe.table, wrong.world, wrong.moves), (((0, 0, (), ("none", 0)),), ("none", 0), (TELL,)))
        self.assertEqual([bool(safe), bool(wrong)], [True, False])
        self.assertTrue(safe == LeanSafe(safe.table))
        self.assertTrue(wrong == LeanWrong(("none", 0), (TELL,)))
        for other in (LeanSafe(()), wrong, safe.table, None):
            self.assertFalse(safe == other)
        for other in (LeanWrong(("bare", 0), (TELL,)), LeanWrong(("none", 0), ()), safe, None):
            self.assertFalse(wrong == other)

    def test_tables_with_one_thing_changed(self):
        for leaning in (Leaning(COLUMN_ADD, INDEX_ADD, 0), Leaning(WHOLE_REMOVE, INDEX_REMOVE, 1)):
            table = judge_lean(leaning, 1).table
            self.assertIs(LeanSafe(table).shows(leaning, 1), True)
            self.assertIs(LeanSafe(list(table[::-1]) + [table[0]]).shows(leaning, 1), True)
            for number in range(len(table)):
                self.assertIs(LeanSafe(table[:number] + table[number + 1:]).shows(leaning, 1), False)
            last = leaning.last()
            for bad in ((last, last + 1, (3, 3), ("none", 0)), (-1, 0, (0, 0), ("none", 0)),
                        (1, 0, (0, 0), ("none", 0)),
                        (0, 0, (0, 4), ("none", 0)), (0, 0, (0,), ("none", 0)), (0, 0, (0, 0, 0), ("none", 0)),
                        (0, 0, (), ("none", 0)), (0, 0, "none", ("none", 0)), (0, 0, (0, 0), ("full", 0)),
                        (0, 0, (0, 0), ("none", 2)), (0, 0, (0, 0), "none"), (0, 0, [0, 0], ("none", 0)),
                        (False, 0, (0, 0), ("none", 0)), (0, 0, (0, False), ("none", 0)), (0, 0, (0, 0),
                                                                                           ("none", False)),
                        (0, 0, (0, 0)), None, [0, 0, (0, 0), ("none", 0)], (0, 0, ("0", 0), ("none", 0))):
                self.assertIs(LeanSafe(table + (bad,)).shows(leaning, 1), False, bad)

    def test_what_no_run_comes_to_may_stand_in_a_table(self):
        leaning = Leaning(Plan("column", [()]), Plan("index", [(), ()], "fill", 1), 0)
        table = judge_lean(leaning, 1).table
        further = tuple((0, 0, (phase,), ("bare", 0)) for phase in (1, 2, 3))
        self.assertFalse(set(further) & set(table))
        self.assertIs(LeanSafe(table + further[2:]).shows(leaning, 1), False)
        met = list(table + further)
        for standing in met:
            met += [behind for behind, _ in leanmodel.moves(leaning, 1, standing).values() if behind not in met]
        self.assertIs(LeanSafe(met).shows(leaning, 1), True)

    def test_runs_with_one_thing_changed(self):
        leaning = Leaning(COLUMN_ADD, SUDDEN, 1)
        told = judge_lean(leaning, 1)
        self.assertIs(told.shows(leaning, 1), True)
        for number in range(len(told.moves)):
            moves = told.moves[:number] + told.moves[number + 1:]
            self.assertIs(LeanWrong(told.world, moves).shows(leaning, 1), False)
        for world in (("this", 0), ("bare", 1), ("full", 0), "bare", None, ["bare", 0], ("bare", False)):
            self.assertIs(LeanWrong(world, told.moves).shows(leaning, 1), False)
        for move in (("tell", 0), ("deed", 9, "none"), ("deed", 0, "full"), None, ["tell"], ("deed", False, "none"),
                     "tell", 5):
            self.assertIs(LeanWrong(told.world, (move, *told.moves)).shows(leaning, 1), False)
        for move in (TELL, ("deed", 2, "none"), told.moves[-1]):
            self.assertIs(LeanWrong(told.world, (*told.moves, *[told.moves[-1]], move)).shows(leaning, 1), False)


class OffsetTest(unittest.TestCase):
    def check(self, column, index, lag):
        told = least_offset(column, index, lag)
        self.assertIs(type(told), LeastOffset)
        self.assertIs(told.shows(column, index, lag), True)
        safe = [offset for offset in range(column.last() + 1)
                if leanmodel.fewest(Leaning(column, index, offset), lag)[0] is None]
        self.assertEqual(told.offset, safe[0] if safe else None)
        self.assertIs(bool(told), bool(safe))
        self.assertEqual(list(told.against), list(range(safe[0] if safe else column.last() + 1)))
        self.assertEqual(type(told.paper), LeanSafe if safe else type(None))
        for offset, paper in told.against.items():
            self.assertIs(type(paper), LeanWrong)
            self.assertIs(paper.shows(Leaning(column, index, offset), lag), True)
        return told.offset

    def test_recipes(self):
        for column, index in product(COLUMNS, INDEXES):
            self.assertEqual(self.check(column, index, 1), 0)

    def test_later_offsets(self):
        offsets = {}
        for column in plans_of("column", 3, 3) + plans_of("whole", 3, 3) + COLUMNS:
            for index in (INDEX_ADD, INDEX_REMOVE, Plan("index", [(), ("drop", "put"), WHOLE], "fill", 1), SUDDEN):
                found = self.check(column, index, 1)
                offsets[found] = offsets.get(found, 0) + 1
        self.assertGreaterEqual(len(offsets), 4, offsets)
        self.assertIn(None, offsets)

    def test_greater_lags(self):
        for lag in (2, 3):
            self.check(COLUMN_ADD, INDEX_ADD, lag)
            self.check(held(COLUMN_ADD, lag), held(INDEX_ADD, lag), lag)

    def test_attributes_and_equality(self):
        safe, against = LeanSafe(()), {0: LeanWrong(None, ())}
        told = LeastOffset(1, safe, against)
        against.clear()
        self.assertEqual((told.offset, told.paper, told.against), (1, safe, {0: LeanWrong(None, ())}))
        self.assertTrue(told == LeastOffset(1, safe, {0: LeanWrong(None, ())}))
        for other in (LeastOffset(2, safe, told.against), LeastOffset(1, None, told.against), LeastOffset(1, safe, {}),
                      1,
                      None, safe):
            self.assertFalse(told == other)
        self.assertEqual([bool(LeastOffset(offset, None, {})) for offset in (0, 3, None)], [True, True, False])

    def bent(self, asked, told, *changed):
        for parts in changed:
            bent = {"offset": told.offset, "paper": told.paper, "against": told.against, **parts}
            self.assertIs(LeastOffset(**bent).shows(*asked), False, parts)

    def test_papers_with_one_thing_changed(self):
        index = Plan("index", [(), ("drop", "put"), WHOLE], "fill", 1)
        late = [column for column in plans_of("column", 3) if least_offset(column, index, 1).offset == 1]
        asked = (late[0], index, 1)
        told = least_offset(*asked)
        other = judge_lean(Leaning(late[0], index, 2), 1)
        self.bent(asked, told, {"offset": 0}, {"offset": 2}, {"offset": None}, {"offset": True}, {"offset": -1},
                  {"offset": 9},
                  {"offset": "1"}, {"paper": None}, {"paper": LeanSafe(())}, {"paper": LeanSafe(told.paper.table[1:])},
                  {"paper": told.against[0]}, {"against": {}}, {"against": {0: None}}, {"against": {0: told.paper}},
                  {"against": {0: LeanWrong(("none", 0), ())}}, {"against": {False: told.against[0]}},
                  {"against": {0: told.against[0], 1: told.against[0]}}, {"against": {"0": told.against[0]}},
                  {"against": {1: told.against[0]}}, {"offset": None, "paper": None})
        if other:
            self.bent(asked, told, {"offset": 2, "paper": other}, {"offset": 2, "paper": other, "against": {
                **told.against, 1: told.against[0]}})
        self.bent(asked, told, {"offset": late[0].last() + 1})
        self.assertIs(told.shows(late[0], INDEX_REMOVE, 1), False)
        self.assertIs(told.shows(COLUMN_ADD, index, 1), False)

    def test_the_greatest_offset(self):
        asked = (Plan("column", [FULL]), INDEX_ADD, 1)
        told = least_offset(*asked)
        self.assertEqual((told.offset, told.against), (0, {}))
        self.bent(asked, told, {"offset": -1}, {"offset": 1}, {"offset": False})

    def test_without_a_safe_offset(self):
        column = Plan("column", [(), ("put",), FULL])
        asked = (column, INDEX_ADD, 1)
        told = least_offset(*asked)
        self.assertEqual((told.offset, told.paper, sorted(told.against)), (None, None, [0, 1, 2]))
        fewer = [{at: told.against[at] for at in told.against if at != gone} for gone in told.against]
        self.bent(asked, told, {"offset": 0}, {"paper": LeanSafe(())}, {"against": {}},
                  *[{"against": one} for one in fewer],
                  {"against": {**told.against, 3: told.against[2]}}, {"against": {**told.against, 1: None}},
                  {"against": {**fewer[1], True: told.against[1]}}, {"against": {**fewer[0], False: told.against[0]}})

    def test_refused(self):
        shows = LeastOffset(None, None, {}).shows
        for called in (least_offset, shows):
            for lag in BAD_LAGS:
                with self.assertRaises(BadLag) as caught:
                    called(None, None, lag)
                self.assertIs(caught.exception.lag, lag)
            for part, column, index in (("column", None, None), ("column", INDEX_ADD, None),
                                        ("index", COLUMN_ADD, None),
                                        ("index", COLUMN_ADD, COLUMN_ADD)):
                with self.assertRaises(BadLean) as caught:
                    called(column, index, 1)
                self.assertEqual(caught.exception.part, part)


if __name__ == "__main__":
    unittest.main()

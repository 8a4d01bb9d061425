"""[20]: the rows of each kind, what is kept beside them, the deeds and their answers."""

import unittest

from openchange.database import Database
from openchange.plans import Plan
from tests.runs import runs_of
from tests.samples import KEPT, WHOLE

MOST = 1000000


def table_of(kind, sets, rows, element=None):
    """A table in which each version of a plan with these sets has a server, named by its number."""
    table = Database(Plan(kind, sets), 20, rows, element)
    for version in range(len(sets)):
        if version:
            table.happen(("tell",))
        table.happen(("start", str(version)))
    return table


class StoreTest(unittest.TestCase):
    def do(self, table, version, deed, answer, wrong=False):
        told = table.answers([("do", str(version), deed)])
        self.assertEqual(told, [(0, answer, wrong)], (version, deed))
        self.assertEqual(type(told[0][1]), type(answer))
        self.assertIs(told[0][2], wrong)


class IndexTest(StoreTest):
    def table(self, rows, element=None):
        return table_of("index", [(), ("drop",), ("put",), ("drop", "put"), ("read",), WHOLE], rows, element)

    def test_writing_with_each_set(self):
        # Behind a write of 6 into a row with 5, with or without their entries.
        for first, element, entries in ((("drop", "put"), [(5, 1)], (1, 0)),
                                        (("drop", "put"), [(5, 1), (6, 1)], (1, 1))):
            for duties, dropped, put in (((), 0, 0), (("drop",), 1, 0), (("put",), 0, 1), (("drop", "put"), 1, 1),
                                         (("read",), 0, 0), (WHOLE, 1, 1)):
                table = table_of("index", [first, duties], {1: 5}, element)
                self.assertEqual((table.world((1, 5)), table.world((1, 6))), (("this", 1), ("other", entries[1])))
                self.do(table, 1, ("write", 1, 6), "done")
                self.assertEqual(table.world((1, 5)), ("other", 0 if dropped else 1))
                self.assertEqual(table.world((1, 6)), ("this", 1 if put else entries[1]))

    def test_erasing_with_each_set(self):
        for duties, dropped in (((), 0), (("drop",), 1), (("put",), 0), (WHOLE, 1)):
            table = table_of("index", [("drop", "put"), duties], {1: 5, 2: 5}, [(5, 1), (6, 1), (5, 2)])
            self.do(table, 1, ("erase", 1), "done")
            self.assertEqual(table.world((1, 5)), ("none", 0 if dropped else 1))
            self.assertEqual((table.world((1, 6)), table.world((2, 5))), (("none", 1), ("this", 1)))

    def test_a_row_that_comes(self):
        for duties, put in (((), 0), (("drop",), 0), (("put",), 1), (WHOLE, 1)):
            table = table_of("index", [("drop", "put"), duties], {2: 5}, [(5, 2)])
            self.do(table, 1, ("write", 1, 5), "done")
            self.assertEqual((table.world((1, 5)), table.world((2, 5))), (("this", put), ("this", 1)))

    def test_nothing(self):
        table = self.table({1: 5})
        for version in range(6):
            self.do(table, version, ("write", 1, 5), "nothing")
            self.do(table, version, ("erase", 2), "nothing")
            self.assertEqual((table.world((1, 5)), table.world((2, 5))), (("this", 0), ("none", 0)))

    def test_nothing_at_all_is_done_where_there_is_an_entry_without_a_row(self):
        table = table_of("index", [("drop", "put"), WHOLE], {}, [(5, 1)])
        self.do(table, 1, ("erase", 1), "nothing")
        self.assertEqual(table.world((1, 5)), ("none", 1))

    def test_reading(self):
        table = self.table({1: 5, 3: 5, 2: 6})
        for version in range(4):
            self.do(table, version, ("read", 5), (1, 3))
            self.do(table, version, ("read", 6), (2,))
            self.do(table, version, ("read", 7), ())
        for version in (4, 5):
            self.do(table, version, ("read", 5), (), True)
            self.do(table, version, ("read", 7), ())
        self.do(table, 2, ("write", 4, 5), "done")
        self.do(table, 5, ("read", 5), (4,), True)
        self.do(table, 0, ("read", 5), (1, 3, 4))
        self.do(table, 0, ("erase", 4), "done")
        self.do(table, 5, ("read", 5), (4,), True)
        self.do(table, 5, ("write", 4, 7), "done")
        self.do(table, 5, ("read", 7), (4,))
        self.do(table, 5, ("write", 4, 8), "done")
        self.do(table, 5, ("read", 7), ())
        self.do(table, 5, ("read", 8), (4,))

    def test_keys_are_ascending(self):
        table = table_of("index", [WHOLE, ()], {})
        for key in (12, 3, 100, 20, 0):
            self.do(table, 0, ("write", key, 5), "done")
        for version in (0, 1):
            self.do(table, version, ("read", 5), (0, 3, 12, 20, 100))

    def test_numbers(self):
        table = table_of("index", [WHOLE], {MOST: 0})
        self.do(table, 0, ("write", 0, MOST), "done")
        self.do(table, 0, ("read", MOST), (0,))
        self.do(table, 0, ("read", 0), (MOST,))


class UniqueTest(StoreTest):
    def test_writing_with_each_set(self):
        for duties, dropped, put in (((), 0, 0), (("drop",), 1, 0), (("put",), 0, 1), (("drop", "put"), 1, 1),
                                     (KEPT, 1, 1)):
            table = table_of("unique", [("drop", "put"), duties], {1: 5}, {5: 1})
            self.do(table, 1, ("write", 1, 6), "done")
            self.assertEqual(table.world(5), ("other", "none", "none", 0 if dropped else 1))
            self.assertEqual(table.world(6), ("this", "none", "none", 1 if put else 0))

    def test_erasing(self):
        for duties, dropped in (((), 0), (("drop",), 1), (("put",), 0), (KEPT, 1)):
            for holder in (1, 2):
                table = table_of("unique", [("drop", "put"), duties], {1: 5}, {5: holder, 6: 1})
                self.do(table, 1, ("erase", 1), "done")
                self.assertEqual(table.world(5), ("none", "none", "none", 0 if dropped and holder == 1 else holder))
                self.assertEqual(table.world(6), ("none", "none", "none", 1))

    def test_a_row_that_comes_takes_the_holding(self):
        table = table_of("unique", [("drop", "put"), ("put",), ("check", "put")], {1: 5}, {5: 1})
        self.do(table, 1, ("write", 2, 5), "done")
        self.assertEqual(table.world(5), ("this", "this", "none", 2))
        self.do(table, 2, ("write", 3, 5), "refused")
        self.assertEqual(table.world(5), ("this", "this", "none", 2))

    def test_refused(self):
        table = table_of("unique", [("drop", "put"), ("drop", "put"), KEPT], {1: 5, 2: 7}, {5: 1, 6: 3, 7: 2})
        self.do(table, 2, ("write", 2, 5), "refused")
        self.do(table, 2, ("write", 2, 6), "refused", True)
        self.do(table, 2, ("write", 1, 6), "refused", True)
        self.assertEqual(table.world(7), ("other", "this", "none", 2))
        self.do(table, 2, ("write", 3, 6), "done")
        self.do(table, 2, ("write", 1, 6), "refused")
        self.do(table, 1, ("write", 1, 6), "done")
        self.assertEqual(table.world(5), ("other", "other", "other", 0))
        self.assertEqual(table.world(6), ("this", "other", "this", 1))

    def test_a_refusal_where_only_the_row_itself_was_the_holder(self):
        table = table_of("unique", [KEPT], {}, {})
        self.do(table, 0, ("write", 1, 5), "done")
        self.do(table, 0, ("write", 1, 6), "done")
        self.do(table, 0, ("write", 1, 5), "done")
        self.do(table, 0, ("write", 2, 5), "refused")
        self.do(table, 0, ("erase", 1), "done")
        self.do(table, 0, ("write", 2, 5), "done")

    def test_nothing(self):
        table = table_of("unique", [("drop", "put"), KEPT], {1: 5}, {5: 2})
        for version in (0, 1):
            self.do(table, version, ("write", 1, 5), "nothing")
            self.do(table, version, ("erase", 3), "nothing")
            self.do(table, version, ("erase", 2), "nothing")
            self.assertEqual(table.world(5), ("this", "none", "none", 2))

    def test_reading(self):
        table = table_of("unique", [("drop", "put"), ("drop",), KEPT, ("read",)], {1: 5, 3: 5, 2: 6}, {5: 3, 8: 1})
        for version in (0, 1):
            self.do(table, version, ("read", 5), (1, 3))
            self.do(table, version, ("read", 6), (2,))
            self.do(table, version, ("read", 8), ())
        for version in (2, 3):
            self.do(table, version, ("read", 5), (3,), True)
            self.do(table, version, ("read", 6), (), True)
            self.do(table, version, ("read", 8), (1,), True)
            self.do(table, version, ("read", 9), ())
        self.do(table, 0, ("erase", 1), "done")
        self.do(table, 2, ("read", 5), (3,))


class ColumnTest(StoreTest):
    def test_writing(self):
        for kind, kept in (("column", "full"), ("whole", "bare")):
            for duties, put in (((), False), (("read",), False), (("put",), True), (("put", "read"), True)):
                table = table_of(kind, [("put",), duties], [1, 2], [2])
                for key in (1, 2, 3):
                    self.do(table, 1, ("write", key), "done")
                self.assertEqual([table.world(key) for key in (1, 2, 3)],
                                 ["full"] * 3 if put else ["bare", kept, "bare"])

    def test_erasing(self):
        for kind in ("column", "whole"):
            table = table_of(kind, [("put",), ("put", "read")], [1, 2], [2])
            for version in (0, 1):
                self.do(table, version, ("erase", version + 1), "done")
                self.do(table, version, ("erase", version + 1), "nothing")
                self.assertEqual(table.world(version + 1), "none")
                self.do(table, version, ("erase", 7), "nothing")

    def test_reading(self):
        for kind in ("column", "whole"):
            table = table_of(kind, [("put",), (), ("read",), ("put", "read")], [1, 2], [2])
            for version in (0, 1):
                for key, answer in ((1, "full"), (2, "full"), (3, "none")):
                    self.do(table, version, ("read", key), answer)
            for version in (2, 3):
                for key, answer, wrong in ((1, "bare", True), (2, "full", False), (3, "none", False)):
                    self.do(table, version, ("read", key), answer, wrong)

    def test_a_row_that_went_and_came(self):
        table = table_of("column", [("put",), ()], [1], [1])
        self.do(table, 1, ("erase", 1), "done")
        self.do(table, 1, ("write", 1), "done")
        self.assertEqual(table.world(1), "bare")


class ReferenceTest(StoreTest):
    def table(self, parents, children):
        return table_of("reference", [(), ("check",), ("guard",), ("read",), ("check", "guard", "read")],
                        (parents, children))

    def test_parents(self):
        table = self.table([1], {})
        for version in range(5):
            self.do(table, version, ("write parent", 1), "nothing")
            self.do(table, version, ("write parent", 2), "done")
            self.do(table, version, ("write parent", 2), "nothing")
            self.do(table, version, ("erase parent", 2), "done")
            self.do(table, version, ("erase parent", 2), "nothing")
            self.assertEqual([table.world((key, 7)) for key in (1, 2)], [(1, 0), (0, 0)])

    def test_guarding(self):
        for version in (2, 4):
            table = self.table([1, 2], {5: 1, 6: 3})
            self.do(table, version, ("erase parent", 1), "refused")
            self.do(table, version, ("erase parent", 3), "refused")
            self.do(table, version, ("erase parent", 4), "nothing")
            self.assertEqual((table.world((1, 5)), table.world((3, 6))), ((1, 1), (0, 1)))
            self.do(table, version, ("erase parent", 2), "done")
        for version in (0, 1, 3):
            table = self.table([1, 2], {5: 1, 6: 3})
            self.do(table, version, ("erase parent", 1), "done")
            self.do(table, version, ("erase parent", 3), "nothing")
            self.assertEqual(table.world((1, 5)), (0, 1))

    def test_checking(self):
        for version in (1, 4):
            table = self.table([1], {5: 1})
            self.do(table, version, ("write child", 6, 2), "refused")
            self.assertEqual(table.world((2, 6)), (0, 0))
            self.do(table, version, ("write child", 6, 1), "done")
            self.do(table, version, ("write child", 6, 2), "nothing")
            self.do(table, version, ("write child", 5, 1), "nothing")
            self.assertEqual((table.world((1, 6)), table.world((2, 6))), ((1, 1), (0, 0)))
        for version in (0, 2, 3):
            table = self.table([1], {5: 1})
            self.do(table, version, ("write child", 6, 2), "done")
            self.do(table, version, ("write child", 5, 2), "nothing")
            self.assertEqual((table.world((2, 6)), table.world((1, 5)), table.world((2, 5))), ((0, 1), (1, 1), (0, 0)))

    def test_erasing_children(self):
        for version in range(5):
            table = self.table([1], {5: 1, 6: 2})
            for key in (5, 6):
                self.do(table, version, ("erase child", key), "done")
                self.do(table, version, ("erase child", key), "nothing")
            self.assertEqual((table.world((1, 5)), table.world((2, 6))), ((1, 0), (0, 0)))

    def test_reading(self):
        table = self.table([1], {5: 1, 6: 2})
        for version in (0, 1, 2):
            for key, answer in ((5, "there"), (6, "there"), (1, "none")):
                self.do(table, version, ("read", key), answer)
        for version in (3, 4):
            for key, answer, wrong in ((5, "there", False), (6, "orphan", True), (1, "none", False)):
                self.do(table, version, ("read", key), answer, wrong)


class MovedTest(StoreTest):
    def test_numbers_of_writes(self):
        table = table_of("moved", [("old",), (), ("new",), ("new", "old"), ("from old",), ("from new",),
                                   ("from new", "from old")], [1, 2])
        self.reads(table, 1, (0,), (0,), (None,), (0, None))
        self.do(table, 3, ("write", 1), "done")
        self.reads(table, 1, (1,), (1,), (1,), (1, 1))
        self.do(table, 0, ("write", 1), "done")
        self.reads(table, 1, (2,), (2,), (1,), (2, 1))
        self.do(table, 2, ("write", 1), "done")
        self.reads(table, 1, (3,), (2,), (3,), (2, 3))
        self.do(table, 1, ("write", 1), "done")
        self.reads(table, 1, (4,), (2,), (3,), (2, 3))
        # All writes into the table are counted, not those of a row.
        self.do(table, 0, ("write", 2), "done")
        self.reads(table, 2, (5,), (5,), (None,), (5, None))
        self.do(table, 1, ("erase", 2), "done")
        self.do(table, 3, ("write", 1), "done")
        self.reads(table, 1, (6,), (6,), (6,), (6, 6))

    def reads(self, table, key, row, old, new, both):
        for version in range(4):
            self.do(table, version, ("read", key), row)
        for version, answer in ((4, old), (5, new), (6, both)):
            self.do(table, version, ("read", key), answer, any(number != row[0] for number in answer))

    def test_erasing(self):
        table = table_of("moved", [("new", "old"), (), ("from new", "from old")], [1])
        self.do(table, 1, ("erase", 1), "done")
        for version in range(3):
            self.do(table, version, ("erase", 1), "nothing")
            self.do(table, version, ("read", 1), ())
        self.assertEqual(table.world(1), ())
        self.do(table, 1, ("write", 1), "done")
        self.do(table, 2, ("read", 1), (None, None), True)
        self.do(table, 1, ("read", 1), (1,))

    def test_worlds(self):
        table = table_of("moved", [("old",), (), ("new",), ("new", "old")], [])
        for version, world in ((0, (1, 0)), (1, (0, 0)), (2, (0, 1)), (3, (1, 1)), (1, (0, 0)), (0, (1, 0))):
            self.do(table, version, ("write", 1), "done")
            self.assertEqual(table.world(1), world)


class TruthTest(unittest.TestCase):
    """Readings and refusals, compared with rows that are followed by the answers alone."""

    def check(self, kind):
        kinds_of_answers = set()
        for plan, lag, rows, element, events in runs_of(kind, 3, 300, 30):
            table = Database(plan, lag, rows, element)
            truth = self.begun(kind, rows)
            number = 0
            for at, event in enumerate(events):
                told = table.answers([event])
                self.assertEqual(len(told), event[0] == "do")
                if plan.kind == "reference" and event[0] == "work":
                    truth[1].clear()
                    truth[1].update({child: parent for parent, child in table.focuses()
                                     if table.world((parent, child))[1]})
                if not told:
                    continue
                _, answer, wrong = told[0]
                deed = event[2]
                if deed[0] == "read":
                    self.assertEqual(wrong, self.is_wrong(kind, truth, deed[1], answer), (kind, deed, answer))
                elif answer == "done":
                    number += deed[0] == "write"
                    self.followed(kind, truth, deed, number)
                elif answer == "refused" and kind == "unique":
                    self.assertEqual(wrong, deed[2] not in truth.values())
                else:
                    self.assertIs(wrong, False)
                kinds_of_answers.add((deed[0], str(answer) if deed[0] != "read" else "", wrong))
        self.assertIn(("read", "", True), kinds_of_answers)
        self.assertIn(("read", "", False), kinds_of_answers)

    def begun(self, kind, rows):
        if kind == "reference":
            return (dict.fromkeys(rows[0]), dict(rows[1]))
        return dict(rows) if kind in ("index", "unique") else dict.fromkeys(rows, 0)

    def is_wrong(self, kind, truth, looked, answer):
        if kind in ("index", "unique"):
            return answer != tuple(sorted(key for key, value in truth.items() if value == looked))
        if kind == "reference":
            return answer != ("there" if looked in truth[1] else "none")
        if kind == "moved":
            return any(number != truth[looked] for number in answer) if looked in truth else answer != ()
        return answer != ("full" if looked in truth else "none")

    def followed(self, kind, truth, deed, number):
        word, key = deed[:2]
        if kind == "reference":
            rows = truth[0] if "parent" in word else truth[1]
            if word.startswith("erase"):
                del rows[key]
            else:
                rows[key] = deed[-1]
        elif word == "erase":
            del truth[key]
        else:
            truth[key] = deed[2] if kind in ("index", "unique") else number

    def test_index(self):
        self.check("index")

    def test_unique(self):
        self.check("unique")

    def test_column(self):
        self.check("column")

    def test_whole(self):
        self.check("whole")

    def test_reference(self):
        self.check("reference")

    def test_moved(self):
        self.check("moved")


if __name__ == "__main__":
    unittest.main()

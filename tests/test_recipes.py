"""[32]: recipes."""

import unittest

from openchange.judging import judge
from openchange.plans import Plan, held
from openchange.recipes import recipe
from tests.samples import (COLUMN_ADD, COLUMN_REMOVE, INDEX_ADD, INDEX_REMOVE, MOVE, REFERENCE_ADD, REFERENCE_REMOVE,
                           UNIQUE_ADD, UNIQUE_REMOVE)

TOLD = {
    ("index", "add"): INDEX_ADD, ("index", "remove"): INDEX_REMOVE, ("unique", "add"): UNIQUE_ADD,
    ("unique", "remove"): UNIQUE_REMOVE, ("column", "add"): COLUMN_ADD, ("column", "remove"): COLUMN_REMOVE,
    ("reference", "add"): REFERENCE_ADD, ("reference", "remove"): REFERENCE_REMOVE, ("moved", "add"): MOVE,
    ("moved", "remove"): MOVE, ("moved", "move"): MOVE}

# Each recipe once more, letter by letter.
D, P, C = "drop", "put", "check"
WRITTEN = {
    ("index", "add"): ([(), (D,), (D, P), (D, P, "read")], "fill", 2),
    ("index", "remove"): ([(D, P, "read"), (D, P), ()], "empty", 2),
    ("unique", "add"): ([(), (D,), (C, D, P), (C, D, P, "read")], "fill", 2),
    ("unique", "remove"): ([(C, D, P, "read"), (C, D, P), (D, P), ()], "empty", 3),
    ("column", "add"): ([(), (P,), (P, "read")], "fill", 1),
    ("column", "remove"): ([(P, "read"), (P,), ()], "strip", 2),
    ("reference", "add"): ([(), (C, "guard"), (C, "guard", "read")], "check", 1),
    ("reference", "remove"): ([(C, "guard", "read"), (C, "guard"), ()], "", 0),
    ("moved", "add"): ([("from old", "old"), ("from old", "new", "old"), ("from new", "new", "old"),
                        ("from new", "new")], "copy", 1)}


class RecipesTest(unittest.TestCase):
    def test_recipes(self):
        for (kind, word), expected in TOLD.items():
            plan = recipe(kind, word)
            self.assertEqual(plan, expected, (kind, word))
            self.assertIs(type(plan.sets), tuple)
        for (kind, word), (sets, job, at) in WRITTEN.items():
            self.assertEqual(recipe(kind, word), Plan(kind, sets, job, at), (kind, word))

    def test_all_are_safe(self):
        for kind, word in TOLD:
            told = judge(recipe(kind, word), 1)
            self.assertIs(bool(told), True, (kind, word))
            self.assertIs(told.shows(recipe(kind, word), 1), True)

    def test_held_ones_are_safe_for_greater_lags(self):
        for kind, word in TOLD:
            self.assertIs(bool(judge(held(recipe(kind, word), 3), 3)), True, (kind, word))

    def test_adding_and_removing_are_each_other_the_way_back(self):
        for kind in ("index", "unique", "column", "reference"):
            add, remove = recipe(kind, "add"), recipe(kind, "remove")
            self.assertEqual((add.sets[0], add.sets[-1]), (remove.sets[-1], remove.sets[0]))


if __name__ == "__main__":
    unittest.main()

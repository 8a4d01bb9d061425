"""[33] and [35]: schemas, and the changes from one to another."""

import copy
import unittest
from itertools import product
from random import Random

from openchange.changeerrors import BadChange
from openchange.plans import Plan
from openchange.schemas import Schema, changes, leans_on

ELEMENTS = ("column", "index", "reference", "unique")


def marks(*words, place="main", to=None):
    """The marks of a column; words are of column, index and unique."""
    told = {"place": place, **{word: True for word in words}}
    return told if to is None else {**told, "reference": to}


def one(told):
    """A schema with one column of one table, without the column for None."""
    return Schema({"people": {} if told is None else {"mail": told}})


def some_schema(chance):
    tables = {}
    for table in ("a", "b", "c"):
        if chance.random() < 0.8:
            tables[table] = {}
            for column in ("u", "v", "w"):
                if chance.random() < 0.7:
                    words = [word for word in ("index", "unique") if chance.random() < 0.4]
                    # Whether a column is required is told by its name, but for one of them.
                    words += ["column"] if column == "u" or (column == "w" and chance.random() < 0.2) else []
                    tables[table][column] = marks(*words, place=chance.choice(("main", "side")),
                                                  to=chance.choice((None, "a", "b")))
    return Schema(tables)


def plain_changes(old, new):
    """The changes once more, asked one by one; a bad column as the word bad and it."""
    told, bad = [], []
    for table in set(old.tables) & set(new.tables):
        for column in set(old.tables[table]) | set(new.tables[table]):
            ahead, behind = old.tables[table].get(column), new.tables[table].get(column)
            if ahead is not None and behind is not None:
                if ahead.get("column") != behind.get("column"):
                    bad.append((table, column))
                if ahead["place"] != behind["place"]:
                    told.append(("move", "moved", table, column))
            for kind in ELEMENTS:
                was, will = (ahead or {}).get(kind), (behind or {}).get(kind)
                if was != will:
                    told += [("remove", kind, table, column)] if was else []
                    told += [("add", kind, table, column)] if will else []
    return ("bad", min(bad)) if bad else tuple(sorted(told))


class SchemaTest(unittest.TestCase):
    def test_tables(self):
        tables = {"people": {"name": marks("column"), "mail": marks("index", "unique", place="side")},
                  "posts": {"author": marks(to="people")}, "empty": {}}
        given = copy.deepcopy(tables)
        schema = Schema(tables)
        self.assertEqual(schema.tables, given)
        tables["people"]["name"]["index"] = True
        tables["people"]["further"] = marks()
        del tables["empty"]
        self.assertEqual(schema.tables, given)
        self.assertEqual(Schema({}).tables, {})

    def test_equality(self):
        schema = one(marks("index"))
        self.assertTrue(schema == one(marks("index")))
        self.assertFalse(schema != one(marks("index")))
        for other in (one(marks()), one(marks("index", "unique")), one(marks("index", place="side")), one(None),
                      Schema({}), Schema({"people": {"name": marks("index")}}), schema.tables, None,
                      Plan("column", [()])):
            self.assertFalse(schema == other)
        one_way = Schema({"a": {"u": marks(), "v": marks()}, "b": {}})
        self.assertTrue(one_way == Schema({"b": {}, "a": {"v": marks(), "u": marks()}}))

    def test_marked(self):
        schema = Schema({
            "posts": {"id": marks("unique", "index", "column"), "author": marks(to="people"), "text": marks()},
            "people": {"id": marks("unique"), "boss": marks("index", to="people"), "name": marks("column")}})
        self.assertEqual(schema.marked(), [
            ("column", "people", "name"), ("column", "posts", "id"), ("index", "people", "boss"),
            ("index", "posts", "id"), ("reference", "people", "boss"), ("reference", "posts", "author"),
            ("unique", "people", "id"), ("unique", "posts", "id")])
        self.assertEqual(Schema({}).marked(), [])
        self.assertEqual(Schema({"people": {"name": marks(place="side")}}).marked(), [])
        self.assertIsNot(schema.marked(), schema.marked())


class ChangesTest(unittest.TestCase):
    def expect(self, old, new, *expected):
        told = changes(one(old), one(new))
        self.assertEqual(told, tuple((word, kind, "people", "mail") for word, kind in expected))

    def test_each_mark_both_ways(self):
        for kind in ("index", "unique"):
            self.expect(marks(), marks(kind), ("add", kind))
            self.expect(marks(kind), marks(), ("remove", kind))
        self.expect(marks(), marks(to="posts"), ("add", "reference"))
        self.expect(marks(to="posts"), marks(), ("remove", "reference"))
        self.expect(None, marks("column"), ("add", "column"))
        self.expect(marks("column"), None, ("remove", "column"))
        self.expect(marks(place="main"), marks(place="side"), ("move", "moved"))
        self.expect(marks(place="side"), marks(place="main"), ("move", "moved"))

    def test_nothing_changes(self):
        for told in (None, marks(), marks("column", "index", "unique", place="side", to="people")):
            self.expect(told, told)
        self.assertIs(type(changes(one(None), one(None))), tuple)

    def test_columns_that_nobody_must_have(self):
        self.expect(None, marks())
        self.expect(marks(place="side"), None)
        self.expect(None, marks("index", place="side"), ("add", "index"))
        self.expect(marks("unique", to="people"), None, ("remove", "reference"), ("remove", "unique"))

    def test_a_reference_to_another_table(self):
        self.expect(marks(to="posts"), marks(to="people"), ("add", "reference"), ("remove", "reference"))
        self.expect(marks("index", to="posts"), marks("unique", place="side", to="people"), ("add", "reference"),
                    ("add", "unique"), ("move", "moved"), ("remove", "index"), ("remove", "reference"))

    def test_tables_that_are_in_one_alone(self):
        both = {"people": {"mail": marks("index")}}
        further = {"posts": {"id": marks("column", "index", "unique", place="side", to="people")}}
        for old, new in ((both, {**both, **further}), ({**further, **both}, both), (both, further), ({}, both)):
            self.assertEqual(changes(Schema(old), Schema(new)), ())

    def test_they_are_ascending(self):
        old = Schema({"b": {"u": marks("index"), "v": marks()}, "a": {"u": marks(), "v": marks("unique")}})
        new = Schema({"b": {"v": marks("index"), "u": marks(place="side")},
                      "a": {"v": marks("index"), "u": marks("index")}})
        self.assertEqual(changes(old, new), (
            ("add", "index", "a", "u"), ("add", "index", "a", "v"), ("add", "index", "b", "v"),
            ("move", "moved", "b", "u"), ("remove", "index", "b", "u"), ("remove", "unique", "a", "v")))

    def refused(self, old, new):
        with self.assertRaises(BadChange) as caught:
            changes(old, new)
        return caught.exception.element

    def test_a_column_required_in_one_alone(self):
        for old, new in ((marks(), marks("column")), (marks("column", "index"), marks(place="side"))):
            self.assertEqual(self.refused(one(old), one(new)), ("column", "people", "mail"))
        old = Schema({"b": {"u": marks()}, "a": {"w": marks("column"), "v": marks("column"), "u": marks("column")}})
        new = Schema({"b": {"u": marks("column")}, "a": {"w": marks(), "v": marks()}})
        self.assertEqual(self.refused(old, new), ("column", "a", "v"))
        new = Schema({"b": {"u": marks("column")}, "a": {}})
        self.assertEqual(self.refused(old, new), ("column", "b", "u"))
        new = Schema({"c": {"u": marks("column")}})
        self.assertEqual(changes(old, new), ())

    def test_many_schemas(self):
        chance = Random(2)
        bad = 0
        for _ in range(600):
            old, new = some_schema(chance), some_schema(chance)
            given = copy.deepcopy((old.tables, new.tables))
            expected = plain_changes(old, new)
            if expected and expected[0] == "bad":
                self.assertEqual(self.refused(old, new), ("column", *expected[1]))
                bad += 1
            else:
                self.assertEqual(changes(old, new), expected)
            self.assertEqual((old.tables, new.tables), given)
        self.assertGreater(bad, 50)
        self.assertLess(bad, 500)


class LeansTest(unittest.TestCase):
    LEANS = [((word, kind), (other, of)) for word, kind, other, of in (
        ("add", "index", "add", "column"), ("add", "unique", "add", "column"), ("add", "reference", "add", "column"),
        ("add", "index", "remove", "index"), ("add", "unique", "remove", "unique"),
        ("add", "reference", "remove", "reference"), ("remove", "column", "remove", "index"),
        ("remove", "column", "remove", "unique"), ("remove", "column", "remove", "reference"))]

    def test_all_pairs_of_changes(self):
        ways = [(word, kind) for word in ("add", "remove") for kind in ELEMENTS] + [("move", "moved")]
        for way, other in product(ways, repeat=2):
            self.assertIs(leans_on((*way, "people", "mail"), (*other, "people", "mail")), (way, other) in self.LEANS,
                          (way, other))

    def test_of_the_same_table_and_column_alone(self):
        for way, other in self.LEANS:
            for table, column in (("people", "name"), ("posts", "mail"), ("mail", "people")):
                self.assertIs(leans_on((*way, "people", "mail"), (*other, table, column)), False)


if __name__ == "__main__":
    unittest.main()

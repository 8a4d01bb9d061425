"""[36] and [37]: several changes at once, in as few versions as can be."""

import unittest
from random import Random

from openchange.changeerrors import BadChange
from openchange.judging import judge
from openchange.plans import Plan
from openchange.recipes import recipe
from openchange.schemas import Schema, changes, leans_on
from openchange.schematexts import read_schema
from openchange.weaving import Woven, woven, write_woven
from tests.test_schemas import some_schema

OLD = read_schema("table people\ncolumn name\nrequired boss\nrefers boss to people\nindex boss\ncolumn mail\n"
                  "unique mail")
NEW = read_schema("table people\ncolumn name in side\nindex name\nrequired town\nunique town\ncolumn mail")

ADD_INDEX, ADD_TOWN, ADD_UNIQUE = [("add", *told) for told in (
    ("index", "people", "name"), ("column", "people", "town"), ("unique", "people", "town"))]
MOVE = ("move", "moved", "people", "name")
DROP_BOSS, DROP_INDEX, DROP_REFERENCE, DROP_UNIQUE = [("remove", *told) for told in (
    ("column", "people", "boss"), ("index", "people", "boss"), ("reference", "people", "boss"),
    ("unique", "people", "mail"))]

STARTS = {ADD_TOWN: 0, ADD_INDEX: 0, ADD_UNIQUE: 2, MOVE: 0, DROP_BOSS: 2, DROP_INDEX: 0, DROP_REFERENCE: 0,
          DROP_UNIQUE: 0}
CHAIN = (ADD_TOWN, ADD_UNIQUE)

# A reference to another table than before.
THERE = read_schema("table a\ntable b\ncolumn u\nrefers u to a\ncolumn v\nindex v")
HERE = read_schema("table a\ntable b\ncolumn u\nrefers u to b\ncolumn v\nunique v")
TO_A, TO_B = ("remove", "reference", "b", "u"), ("add", "reference", "b", "u")


def last_of(change):
    return recipe(change[1], change[0]).last()


def earliest(told):
    """The earliest starts of changes, found by putting them off until nothing has to wait any longer."""
    starts = {change: 0 for change in told}
    for _ in range(20):
        for change in told:
            for other in told:
                if leans_on(change, other):
                    starts[change] = max(starts[change], starts[other] + last_of(other))
    return starts


def pairs(seed, many):
    """Pairs of schemas of which the first can become the other one."""
    chance = Random(seed)
    told = []
    while len(told) < many:
        old, new = some_schema(chance), some_schema(chance)
        try:
            changes(old, new)
        except BadChange:
            continue
        told.append((old, new))
    return told


class WovenTest(unittest.TestCase):
    def test_attributes_and_equality(self):
        starts, chain = dict(STARTS), list(CHAIN)
        told = Woven(6, starts, chain)
        self.assertEqual((told.length, told.starts, told.chain), (6, STARTS, CHAIN))
        starts.clear()
        chain.clear()
        self.assertEqual((told.starts, told.chain), (STARTS, CHAIN))
        self.assertTrue(told == Woven(6, STARTS, CHAIN))
        for other in (Woven(7, STARTS, CHAIN), Woven(6, {**STARTS, MOVE: 1}, CHAIN), Woven(6, STARTS, CHAIN[:1]),
                      (6, STARTS, CHAIN), None, Plan("column", [()]), Schema({})):
            self.assertFalse(told == other)

    def test_the_example(self):
        old, new = read_schema("table people\ncolumn name"), read_schema(
            "table people\ncolumn name\nrequired mail\nindex mail")
        told = woven(old, new)
        column, index = ("add", "column", "people", "mail"), ("add", "index", "people", "mail")
        self.assertEqual(told, Woven(6, {column: 0, index: 2}, (column, index)))
        self.assertIs(told.shows(old, new), True)

    def test_many_changes(self):
        told = woven(OLD, NEW)
        self.assertEqual((told.length, told.starts, len(told.chain)), (6, {**STARTS, DROP_BOSS: 2}, 2))
        self.assertIs(told.shows(OLD, NEW), True)
        self.assertIs(Woven(6, STARTS, CHAIN).shows(OLD, NEW), True)

    def test_a_reference_to_another_table(self):
        told = woven(THERE, HERE)
        self.assertEqual(told, Woven(5, {TO_A: 0, TO_B: 2, ("remove", "index", "b", "v"): 0,
                                         ("add", "unique", "b", "v"): 0}, (TO_A, TO_B)))
        self.assertIs(told.shows(THERE, HERE), True)

    def test_one_change(self):
        for kind, word in (("index", "add"), ("unique", "remove"), ("column", "add"), ("reference", "remove")):
            bare = "table a\n" if kind == "column" else "table a\ncolumn u\n"
            mark = {"column": "required u", "reference": "refers u to a"}.get(kind, f"{kind} u")
            one, other = read_schema(bare), read_schema(bare + mark)
            old, new = (one, other) if word == "add" else (other, one)
            told = woven(old, new)
            change = (word, kind, "a", "u")
            self.assertEqual(told, Woven(recipe(kind, word).last() + 1, {change: 0}, (change,)))
            self.assertEqual(told.plan(change), recipe(kind, word))

    def test_a_schema_and_itself(self):
        for schema in (OLD, NEW, Schema({})):
            told = woven(schema, schema)
            self.assertEqual(told, Woven(1, {}, ()))
            self.assertIs(told.shows(schema, schema), True)
            self.assertEqual(told.duties_at(0), {})
            for wrong in (Woven(2, {}, ()), Woven(0, {}, ()), Woven(True, {}, ()), Woven(None, {}, ()),
                          Woven(1, {MOVE: 0}, ()), Woven(1, {}, (MOVE,)), Woven(5, {}, (MOVE,))):
                self.assertIs(wrong.shows(schema, schema), False)

    def test_fewest_versions_of_many_schemas(self):
        lengths = {}
        for old, new in pairs(3, 400):
            told = woven(old, new)
            self.assertIs(told.shows(old, new), True)
            starts = earliest(changes(old, new))
            self.assertEqual(told.starts, starts)
            self.assertEqual(told.length, 1 + max([start + last_of(change) for change, start in starts.items()],
                                                  default=0))
            self.assertEqual(sum(last_of(change) for change in told.chain), told.length - 1)
            for ahead, change in zip(told.chain, told.chain[1:]):
                self.assertTrue(leans_on(change, ahead))
            self.assertTrue(all(change in starts for change in told.chain))
            self.assertEqual(type(told.chain), tuple)
            lengths[told.length] = lengths.get(told.length, 0) + 1
        self.assertGreaterEqual(len(lengths), 4, lengths)

    def refused(self, called, *told):
        with self.assertRaises(BadChange) as caught:
            called(*told)
        self.assertEqual(caught.exception.element, ("column", "people", "boss"))

    def test_bad_changes(self):
        new = read_schema("table people\nrequired name\ncolumn boss\nrequired town\ncolumn mail")
        self.refused(woven, OLD, new)
        self.refused(woven, new, OLD)
        self.refused(Woven(None, {}, ()).shows, OLD, new)


class ShowsTest(unittest.TestCase):
    def expect(self, expected, length=6, starts=None, chain=CHAIN, old=OLD, new=NEW):
        self.assertIs(Woven(length, STARTS if starts is None else starts, chain).shows(old, new), expected)

    def test_lengths(self):
        self.expect(True)
        for length in (5, 7, 0, -6, 1, None, "6", 6.0, (6,)):
            self.expect(False, length=length)

    def test_starts(self):
        for change, upto in ((ADD_INDEX, 2), (MOVE, 2), (DROP_INDEX, 0), (DROP_REFERENCE, 0), (DROP_UNIQUE, 2),
                             (ADD_TOWN, 0)):
            for start in range(upto + 1):
                self.expect(True, starts={**STARTS, change: start})
            for start in (-1, upto + 1, None, "0", False, True, 0.0):
                self.expect(False, starts={**STARTS, change: start})
        for start in (2, 3):
            self.expect(True, starts={**STARTS, DROP_BOSS: start})
        for start in (0, 1, 4):
            self.expect(False, starts={**STARTS, DROP_BOSS: start})
        self.expect(True, starts={**STARTS, DROP_BOSS: 3, DROP_INDEX: 1, DROP_REFERENCE: 1})
        self.expect(False, starts={**STARTS, DROP_BOSS: 3, DROP_INDEX: 2, DROP_REFERENCE: 1})
        self.expect(False, starts={**STARTS, DROP_BOSS: 3, DROP_INDEX: 1, DROP_REFERENCE: 2})

    def test_all_changes_and_no_others(self):
        for change in STARTS:
            fewer = {other: STARTS[other] for other in STARTS if other != change}
            self.expect(False, starts=fewer)
            self.expect(False, starts={**fewer, (*change[:3], "other"): STARTS[change]})
            self.expect(False, starts={**fewer, 7: STARTS[change]})
        self.expect(False, starts={**STARTS, ("add", "index", "people", "town"): 2})
        self.expect(False, starts={})

    def test_chains(self):
        self.expect(True, chain=list(CHAIN))
        told = [(), (ADD_TOWN,), (ADD_UNIQUE,), (ADD_UNIQUE, ADD_TOWN), (ADD_TOWN, ADD_INDEX), (ADD_TOWN, DROP_UNIQUE),
                (DROP_INDEX, ADD_UNIQUE), (MOVE, DROP_BOSS), (DROP_INDEX, DROP_BOSS), (ADD_TOWN, ADD_TOWN),
                (ADD_TOWN, ADD_UNIQUE, DROP_BOSS), (("add", "column", "people", "mail"), ADD_UNIQUE),
                (ADD_TOWN, ("add", "unique", "people", "mail")), (None, ADD_UNIQUE), (7,), ("add", "column"),
                (ADD_TOWN, ("add", "index", "people", "town")), ((), ())]
        for chain in told:
            self.expect(False, chain=chain)
        # Both chains of removing an index or a reference, and then the column, are shorter by one step.
        for ahead in (DROP_INDEX, DROP_REFERENCE):
            self.expect(False, length=5, chain=(ahead, DROP_BOSS))

    def test_a_chain_that_bars_too_many(self):
        old = read_schema("table a\ncolumn u\ncolumn v")
        new = read_schema("table a\ncolumn u\nindex u\ncolumn v\nunique v")
        one, other = ("add", "index", "a", "u"), ("add", "unique", "a", "v")
        self.expect(True, 4, {one: 0, other: 0}, (one,), old, new)
        self.expect(True, 4, {one: 0, other: 0}, (other,), old, new)
        self.expect(False, 7, {one: 0, other: 3}, (one, other), old, new)
        self.expect(False, 7, {one: 0, other: 0}, (one, other), old, new)
        self.expect(False, 4, {one: 0, other: 0}, (), old, new)

    def test_other_schemas(self):
        self.expect(False, old=NEW, new=OLD)
        self.expect(False, old=OLD, new=OLD)
        self.assertIs(woven(NEW, OLD).shows(OLD, NEW), False)


class PlansTest(unittest.TestCase):
    def test_plans(self):
        told = Woven(6, {**STARTS, MOVE: 2, DROP_BOSS: 3}, CHAIN)
        old, keep, new = ("from old", "old"), ("from old", "new", "old"), ("from new", "new")
        self.assertEqual(told.plan(MOVE), Plan(
            "moved", [old, old, old, keep, ("from new", "new", "old"), new], "copy", 3))
        index = [("drop", "put", "read"), ("drop", "put"), (), (), (), ()]
        self.assertEqual(told.plan(DROP_INDEX), Plan("index", index, "empty", 2))
        whole = ("check", "guard", "read")
        self.assertEqual(told.plan(DROP_REFERENCE), Plan("reference", [whole, ("check", "guard"), (), (), (), ()]))
        self.assertEqual(told.plan(DROP_BOSS), Plan("column", [("put", "read")] * 4 + [("put",), ()], "strip", 5))
        self.assertEqual(told.plan(ADD_UNIQUE).at, 4)
        told = Woven(6, {DROP_REFERENCE: 2}, ())
        self.assertEqual(told.plan(DROP_REFERENCE), Plan("reference", [whole] * 3 + [("check", "guard"), (), ()]))

    def test_all_are_safe(self):
        for old, new in pairs(4, 25) + [(OLD, NEW), (NEW, OLD), (THERE, HERE)]:
            told = woven(old, new)
            for change in told.starts:
                plan = told.plan(change)
                self.assertEqual(plan.last() + 1, told.length)
                self.assertIs(bool(judge(plan, 1)), True, change)

    def test_duties_at(self):
        told = woven(OLD, NEW)
        for version in range(told.length):
            duties = told.duties_at(version)
            self.assertEqual(list(duties), sorted(STARTS))
            self.assertEqual(duties, {change: told.plan(change).sets[version] for change in STARTS})
        self.assertEqual(told.duties_at(3), {
            ADD_TOWN: ("put", "read"), ADD_INDEX: ("drop", "put", "read"), ADD_UNIQUE: ("drop",),
            MOVE: ("from new", "new"), DROP_BOSS: ("put",), DROP_INDEX: (), DROP_REFERENCE: (), DROP_UNIQUE: ()})
        self.assertIsNot(told.duties_at(3), told.duties_at(3))

    def test_starts_in_any_order(self):
        backwards = {change: STARTS[change] for change in sorted(STARTS, reverse=True)}
        told, other = Woven(6, STARTS, CHAIN), Woven(6, backwards, CHAIN)
        self.assertEqual(write_woven(told), write_woven(other))
        self.assertEqual(list(other.duties_at(1)), sorted(STARTS))


class WriteTest(unittest.TestCase):
    def test_nothing_changes(self):
        self.assertEqual(write_woven(Woven(1, {}, ())), "version 0")

    def test_a_reference_to_another_table(self):
        told = Woven(5, {TO_A: 0, TO_B: 2, ("move", "moved", "b", "u"): 1}, ())
        self.assertEqual(write_woven(told).split("\n"), [
            "version 0",
            "  add reference b u: ",
            "  move moved b u: from old, old",
            "  remove reference b u: check, guard, read",
            "version 1",
            "  remove reference b u: check, guard",
            "version 2",
            "  move moved b u: from old, new, old",
            "  move moved b u: job copy",
            "  remove reference b u: ",
            "version 3",
            "  add reference b u: check, guard",
            "  add reference b u: job check",
            "  move moved b u: from new, new, old",
            "version 4",
            "  add reference b u: check, guard, read",
            "  move moved b u: from new, new"])

    def test_versions_in_which_nothing_goes_on(self):
        told = Woven(6, {("remove", "unique", "a", "u"): 1}, ())
        self.assertEqual(write_woven(told).split("\n"), [
            "version 0",
            "  remove unique a u: check, drop, put, read",
            "version 1",
            "version 2",
            "  remove unique a u: check, drop, put",
            "version 3",
            "  remove unique a u: drop, put",
            "version 4",
            "  remove unique a u: ",
            "  remove unique a u: job empty",
            "version 5"])

    def test_what_is_not_changed(self):
        told = woven(OLD, NEW)
        write_woven(told)
        told.duties_at(0).clear()
        told.plan(MOVE)
        self.assertEqual(told, woven(OLD, NEW))


if __name__ == "__main__":
    unittest.main()

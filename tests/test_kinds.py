"""[3] to [9]: kinds, their worlds, deeds and jobs, and first worlds."""

import unittest
from itertools import product

from openchange.kinds import KINDS, kind_of
from tests.samples import sets_of


def deeds(word, world, *duties):
    """The deeds of a world, ascending."""
    return sorted(kind_of(word).deeds(world, duties))


def works(word, job, part=0):
    """A dict from the worlds that a job changes, or at which it gives up, to what it makes of them."""
    kind = kind_of(word)
    told = {world: kind.worked(job, world, part) for world in kind.worlds()}
    return {world: behind for world, behind in told.items() if behind != world}


class AllKindsTest(unittest.TestCase):
    def test_words(self):
        self.assertEqual(KINDS, ("column", "index", "moved", "reference", "unique", "whole"))
        self.assertIs(type(KINDS), tuple)

    def test_duties(self):
        told = {word: kind_of(word).duties for word in KINDS}
        self.assertEqual(told, {
            "column": ("put", "read"), "index": ("drop", "put", "read"),
            "moved": ("from new", "from old", "new", "old"), "reference": ("check", "guard", "read"),
            "unique": ("check", "drop", "put", "read"), "whole": ("put", "read")})

    def test_jobs(self):
        told = {word: kind_of(word).jobs for word in KINDS}
        self.assertEqual(told, {
            "column": ("fill", "strip"), "index": ("clean", "empty", "fill", "rebuild"), "moved": ("back", "copy"),
            "reference": ("check", "sweep"), "unique": ("empty", "fill"), "whole": ("fill", "strip")})

    def test_parts(self):
        told = {word: kind_of(word).parts for word in KINDS}
        self.assertEqual(told, {"column": 1, "index": 1, "moved": 1, "reference": 1, "unique": 3, "whole": 1})

    def test_worlds_are_all_and_each_once(self):
        self.assertEqual({word: len(kind_of(word).worlds()) for word in KINDS},
                         {"column": 3, "index": 6, "moved": 5, "reference": 4, "unique": 108, "whole": 3})
        rows = ("this", "other", "none")
        expected = {
            "column": {"none", "bare", "full"}, "whole": {"none", "bare", "full"},
            "index": set(product(rows, (0, 1))), "reference": set(product((0, 1), (0, 1))),
            "moved": {(), (0, 0), (0, 1), (1, 0), (1, 1)}, "unique": set(product(rows, rows, rows, (0, 1, 2, 3)))}
        for word in KINDS:
            self.assertEqual(set(kind_of(word).worlds()), expected[word])

    def test_returned_lists_and_dicts_are_new(self):
        for word in KINDS:
            kind = kind_of(word)
            world = kind.worlds()[0]
            for ask in (kind.worlds, lambda: kind.deeds(world, ())):
                told = ask()
                before = list(told)
                told.clear()
                self.assertEqual(ask(), before)
            firsts = kind.firsts(())
            before = dict(firsts)
            firsts.clear()
            self.assertEqual(kind.firsts(()), before)
            self.assertIs(type(before), dict)

    def test_deeds_are_triples_that_lead_to_worlds(self):
        for word in KINDS:
            kind = kind_of(word)
            for world, duties in product(kind.worlds(), sets_of(word)):
                told = kind.deeds(world, duties)
                self.assertIs(type(told), list)
                self.assertEqual(len({deed for deed, _, _ in told}), len(told))
                for triple in told:
                    self.assertIs(type(triple), tuple)
                    deed, behind, fault = triple
                    self.assertIs(type(deed), str)
                    self.assertIs(type(fault), str)
                    self.assertIn(behind, kind.worlds())

    def test_jobs_lead_to_worlds_and_find_nothing_more_the_second_time(self):
        for word in KINDS:
            kind = kind_of(word)
            for job, world, part in product(kind.jobs, kind.worlds(), range(kind.parts)):
                behind = kind.worked(job, world, part)
                if behind is not None:
                    self.assertIn(behind, kind.worlds())
                    self.assertEqual(kind.worked(job, behind, part), behind)


class IndexTest(unittest.TestCase):
    def test_without_duties_entries_stay(self):
        for row, entry in product(("this", "other", "none"), (0, 1)):
            self.assertEqual(deeds("index", (row, entry)),
                             sorted((new, (new, entry), "") for new in ("this", "other", "none") if new != row))

    def test_put(self):
        self.assertEqual(deeds("index", ("none", 0), "put"),
                         [("other", ("other", 0), ""), ("this", ("this", 1), "")])
        self.assertEqual(deeds("index", ("other", 0), "put"), [("none", ("none", 0), ""), ("this", ("this", 1), "")])
        self.assertEqual(deeds("index", ("this", 1), "put"), [("none", ("none", 1), ""), ("other", ("other", 1), "")])

    def test_drop_takes_the_entry_only_of_a_row_that_was_this(self):
        self.assertEqual(deeds("index", ("this", 1), "drop"),
                         [("none", ("none", 0), ""), ("other", ("other", 0), "")])
        self.assertEqual(deeds("index", ("other", 1), "drop"), [("none", ("none", 1), ""), ("this", ("this", 1), "")])
        self.assertEqual(deeds("index", ("none", 1), "drop"),
                         [("other", ("other", 1), ""), ("this", ("this", 1), "")])

    def test_all_duties(self):
        self.assertEqual(deeds("index", ("this", 0), "drop", "put", "read"),
                         [("none", ("none", 0), ""), ("other", ("other", 0), ""), ("read", ("this", 0), "missing")])
        self.assertEqual(deeds("index", ("none", 1), "drop", "put", "read"),
                         [("other", ("other", 1), ""), ("read", ("none", 1), "ghost"), ("this", ("this", 1), "")])

    def test_read_faults(self):
        told = {world: [fault for deed, behind, fault in kind_of("index").deeds(world, ("read",))
                        if deed == "read" and behind == world] for world in kind_of("index").worlds()}
        self.assertEqual(told, {("this", 0): ["missing"], ("this", 1): [""], ("other", 0): [""],
                                ("other", 1): ["ghost"], ("none", 0): [""], ("none", 1): ["ghost"]})

    def test_jobs(self):
        self.assertEqual(works("index", "fill"), {("this", 0): ("this", 1)})
        self.assertEqual(works("index", "clean"), {("other", 1): ("other", 0), ("none", 1): ("none", 0)})
        self.assertEqual(works("index", "rebuild"),
                         {("this", 0): ("this", 1), ("other", 1): ("other", 0), ("none", 1): ("none", 0)})
        self.assertEqual(works("index", "empty"),
                         {("this", 1): ("this", 0), ("other", 1): ("other", 0), ("none", 1): ("none", 0)})


class ColumnTest(unittest.TestCase):
    def test_insert_alone_without_a_row(self):
        for word in ("column", "whole"):
            self.assertEqual(deeds(word, "none"), [("insert", "bare", "")])
            self.assertEqual(deeds(word, "none", "put"), [("insert", "full", "")])
            self.assertEqual(deeds(word, "none", "read"), [("insert", "bare", ""), ("read", "none", "")])

    def test_change_and_erase_with_put(self):
        for word, world in product(("column", "whole"), ("bare", "full")):
            self.assertEqual(deeds(word, world, "put"), [("change", "full", ""), ("erase", "none", "")])

    def test_change_without_put(self):
        self.assertEqual(deeds("column", "bare"), [("change", "bare", ""), ("erase", "none", "")])
        self.assertEqual(deeds("column", "full"), [("change", "full", ""), ("erase", "none", "")])
        self.assertEqual(deeds("whole", "bare"), [("change", "bare", ""), ("erase", "none", "")])
        self.assertEqual(deeds("whole", "full"), [("change", "bare", ""), ("erase", "none", "")])

    def test_read(self):
        for word in ("column", "whole"):
            self.assertIn(("read", "bare", "bare"), deeds(word, "bare", "put", "read"))
            self.assertIn(("read", "full", ""), deeds(word, "full", "put", "read"))
            self.assertIn(("read", "none", ""), deeds(word, "none", "put", "read"))

    def test_jobs(self):
        for word in ("column", "whole"):
            self.assertEqual(works(word, "fill"), {"bare": "full"})
            self.assertEqual(works(word, "strip"), {"full": "bare"})


class ReferenceTest(unittest.TestCase):
    def test_without_duties(self):
        self.assertEqual(deeds("reference", (0, 0)), [("insert child", (0, 1), ""), ("insert parent", (1, 0), "")])
        self.assertEqual(deeds("reference", (0, 1)), [("erase child", (0, 0), ""), ("insert parent", (1, 1), "")])
        self.assertEqual(deeds("reference", (1, 0)), [("erase parent", (0, 0), ""), ("insert child", (1, 1), "")])
        self.assertEqual(deeds("reference", (1, 1)), [("erase child", (1, 0), ""), ("erase parent", (0, 1), "")])

    def test_guard(self):
        self.assertEqual(deeds("reference", (1, 1), "guard"), [("erase child", (1, 0), "")])
        self.assertEqual(deeds("reference", (1, 0), "guard"),
                         [("erase parent", (0, 0), ""), ("insert child", (1, 1), "")])
        self.assertEqual(deeds("reference", (0, 0), "guard"),
                         [("insert child", (0, 1), ""), ("insert parent", (1, 0), "")])

    def test_check(self):
        self.assertEqual(deeds("reference", (0, 0), "check"), [("insert parent", (1, 0), "")])
        self.assertEqual(deeds("reference", (1, 0), "check"),
                         [("erase parent", (0, 0), ""), ("insert child", (1, 1), "")])
        self.assertEqual(deeds("reference", (1, 1), "check"),
                         [("erase child", (1, 0), ""), ("erase parent", (0, 1), "")])

    def test_read(self):
        for world in ((0, 0), (1, 0), (1, 1)):
            self.assertIn(("read", world, ""), deeds("reference", world, "read"))
        self.assertIn(("read", (0, 1), "orphan"), deeds("reference", (0, 1), "check", "guard", "read"))

    def test_jobs(self):
        self.assertEqual(works("reference", "check"), {(0, 1): None})
        self.assertEqual(works("reference", "sweep"), {(0, 1): (0, 0)})


class MovedTest(unittest.TestCase):
    def test_writes(self):
        for duties, behind in (((), (0, 0)), (("old",), (1, 0)), (("new",), (0, 1)), (("new", "old"), (1, 1))):
            self.assertEqual(deeds("moved", (), *duties), [("insert", behind, "")])
            for world in ((0, 0), (0, 1), (1, 0), (1, 1)):
                self.assertEqual(deeds("moved", world, *duties), [("change", behind, ""), ("erase", (), "")])

    def test_read(self):
        def faults(*duties):
            return {world: fault for world in kind_of("moved").worlds()
                    for deed, behind, fault in kind_of("moved").deeds(world, duties)
                    if deed == "read" and behind == world}
        self.assertEqual(faults("from old"), {(): "", (0, 0): "stale old", (0, 1): "stale old", (1, 0): "", (1, 1): ""})
        self.assertEqual(faults("from new"), {(): "", (0, 0): "stale new", (1, 0): "stale new", (0, 1): "", (1, 1): ""})
        self.assertEqual(faults("from new", "from old"), {(): "", (0, 0): "stale old", (0, 1): "stale old",
                                                          (1, 0): "stale new", (1, 1): ""})
        self.assertEqual(faults("new", "old"), {})

    def test_jobs(self):
        self.assertEqual(works("moved", "copy"), {(0, 1): (0, 0), (1, 0): (1, 1)})
        self.assertEqual(works("moved", "back"), {(0, 1): (1, 1), (1, 0): (0, 0)})


class UniqueTest(unittest.TestCase):
    def test_names_and_rows_without_duties(self):
        self.assertEqual(deeds("unique", ("this", "other", "none", 2)), [
            ("none 1", ("none", "other", "none", 2), ""), ("none 2", ("this", "none", "none", 2), ""),
            ("other 1", ("other", "other", "none", 2), ""), ("other 3", ("this", "other", "other", 2), ""),
            ("this 2", ("this", "this", "none", 2), ""), ("this 3", ("this", "other", "this", 2), "")])

    def test_put(self):
        told = deeds("unique", ("none", "other", "this", 3), "put")
        self.assertIn(("this 1", ("this", "other", "this", 1), ""), told)
        self.assertIn(("this 2", ("none", "this", "this", 2), ""), told)
        self.assertIn(("other 3", ("none", "other", "other", 3), ""), told)
        self.assertIn(("other 1", ("other", "other", "this", 3), ""), told)

    def test_drop(self):
        told = deeds("unique", ("this", "this", "other", 1), "drop")
        self.assertIn(("none 1", ("none", "this", "other", 0), ""), told)
        self.assertIn(("other 1", ("other", "this", "other", 0), ""), told)
        self.assertIn(("none 2", ("this", "none", "other", 1), ""), told)
        self.assertIn(("this 3", ("this", "this", "this", 1), ""), told)
        # A row that was not this one does not drop the holder, be it the holder or not.
        self.assertIn(("none 3", ("none", "none", "none", 3), ""),
                      deeds("unique", ("none", "none", "other", 3), "drop"))

    def test_check(self):
        told = deeds("unique", ("this", "other", "none", 1), "check", "put")
        self.assertIn(("this 2", ("this", "other", "none", 1), ""), told)
        self.assertIn(("this 3", ("this", "other", "none", 1), ""), told)
        told = deeds("unique", ("other", "other", "none", 1), "check", "put")
        self.assertIn(("this 2", ("other", "other", "none", 1), "refused"), told)
        self.assertIn(("this 1", ("this", "other", "none", 1), ""), told)
        told = deeds("unique", ("other", "other", "this", 1), "check", "put")
        self.assertIn(("this 2", ("other", "other", "this", 1), ""), told)
        told = deeds("unique", ("other", "this", "none", 0), "check", "put")
        self.assertIn(("this 1", ("this", "this", "none", 1), ""), told)
        told = deeds("unique", ("other", "this", "none", 0), "check")
        self.assertIn(("this 1", ("this", "this", "none", 0), ""), told)

    def test_read(self):
        for world, fault in ((("none", "other", "none", 0), ""), (("this", "other", "none", 1), ""),
                             (("this", "this", "none", 1), "twice"), (("this", "this", "this", 0), "twice"),
                             (("other", "this", "this", 1), "twice"), (("none", "this", "none", 0), "missing"),
                             (("none", "this", "none", 3), "ghost"), (("none", "none", "none", 2), "ghost"),
                             (("other", "this", "none", 2), ""), (("other", "none", "this", 3), "")):
            self.assertIn(("read", world, fault), deeds("unique", world, "read"))

    def test_read_only_as_a_duty(self):
        for world in kind_of("unique").worlds():
            self.assertNotIn("read", [deed for deed, _, _ in deeds("unique", world, "check", "drop", "put")])

    def test_fill(self):
        for part in (0, 1, 2):
            told = works("unique", "fill", part)
            for world in kind_of("unique").worlds():
                if world[part] != "this" or world[3] == part + 1:
                    self.assertNotIn(world, told)
                elif world[3] == 0:
                    self.assertEqual(told[world], (*world[:3], part + 1))
                else:
                    self.assertIsNone(told[world])

    def test_empty(self):
        for part in (0, 1, 2):
            self.assertEqual(works("unique", "empty", part),
                             {world: (*world[:3], 0) for world in kind_of("unique").worlds() if world[3] != 0})


class FirstsTest(unittest.TestCase):
    def expect(self, word, duties, *worlds):
        self.assertEqual(set(kind_of(word).firsts(duties)), set(worlds), (word, duties))

    def test_index(self):
        bare = [(row, 0) for row in ("this", "other", "none")]
        self.expect("index", (), *bare)
        self.expect("index", ("read",))
        self.expect("index", ("put", "read"))
        self.expect("index", ("drop", "read"))
        self.expect("index", ("drop", "put", "read"), ("this", 1), ("other", 0), ("none", 0))
        for duties in (("drop",), ("put",), ("drop", "put")):
            self.expect("index", duties, *kind_of("index").worlds())

    def test_column_and_whole(self):
        for word in ("column", "whole"):
            self.expect(word, (), "none", "bare")
            self.expect(word, ("put",), "none", "bare", "full")
            self.expect(word, ("read",))
            self.expect(word, ("put", "read"), "none", "full")

    def test_reference(self):
        every = [(0, 0), (0, 1), (1, 0), (1, 1)]
        for duties in ((), ("check",), ("guard",), ("check", "guard")):
            self.expect("reference", duties, *every)
        self.expect("reference", ("check", "guard", "read"), (0, 0), (1, 0), (1, 1))
        for duties in (("read",), ("check", "read"), ("guard", "read")):
            self.expect("reference", duties)

    def test_moved(self):
        every = kind_of("moved").worlds()
        for duties in ((), ("old",), ("new",), ("new", "old")):
            self.expect("moved", duties, *every)
        self.expect("moved", ("from old", "old"), (), (1, 0), (1, 1))
        self.expect("moved", ("from old", "new", "old"), (), (1, 0), (1, 1))
        self.expect("moved", ("from new", "new"), (), (0, 1), (1, 1))
        self.expect("moved", ("from new", "from old", "new", "old"), (), (1, 1))
        for duties in (("from old",), ("from new",), ("from old", "new"), ("from new", "old"),
                       ("from new", "from old", "old")):
            self.expect("moved", duties)

    def test_unique(self):
        worlds = kind_of("unique").worlds()
        self.expect("unique", (), *[world for world in worlds if world[3] == 0])
        clean = [world for world in worlds if list(world[:3]).count("this") == (0 if world[3] == 0 else 1)
                 and (world[3] == 0 or world[world[3] - 1] == "this")]
        self.expect("unique", ("check", "drop", "put", "read"), *clean)
        for duties in (("read",), ("drop", "put", "read"), ("check", "put", "read"), ("check", "drop", "read")):
            self.expect("unique", duties)
        self.expect("unique", ("drop", "put"), *worlds)

    def test_firsts_are_the_worlds_from_which_no_fault_can_be_reached(self):
        unkept = {"index": lambda world: world[1] == 0, "unique": lambda world: world[3] == 0,
                  "column": lambda world: world != "full", "whole": lambda world: world != "full",
                  "reference": lambda world: True, "moved": lambda world: True}
        for word in KINDS:
            kind = kind_of(word)
            for duties in sets_of(word):
                expected = set()
                for world in kind.worlds():
                    reached = [world]
                    for at in reached:
                        reached.extend(behind for _, behind, _ in kind.deeds(at, duties) if behind not in reached)
                    if all(not fault for at in reached for _, _, fault in kind.deeds(at, duties)):
                        if duties or all(unkept[word](at) for at in reached):
                            expected.add(world)
                self.expect(word, duties, *expected)


if __name__ == "__main__":
    unittest.main()

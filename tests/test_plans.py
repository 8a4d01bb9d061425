"""[10]: plans."""

import unittest

from openchange.errors import BadLag, BadPlan, TooLarge
from openchange.plans import Plan, held
from tests.samples import INDEX_ADD, REFERENCE_REMOVE, WHOLE

BAD_LAGS = (0, -1, 21, 100, True, False, None, "1", 1.0, (1,), [1], 10 ** 6000)


class PlanTest(unittest.TestCase):
    def bad(self, part, *arguments):
        with self.assertRaises(BadPlan, msg=repr(arguments)) as caught:
            Plan(*arguments)
        self.assertEqual(caught.exception.part, part, repr(arguments))

    def test_attributes_and_last(self):
        plan = Plan("index", [(), ("drop",)], "fill", 1)
        self.assertEqual((plan.kind, plan.sets, plan.job, plan.at), ("index", ((), ("drop",)), "fill", 1))
        self.assertIs(type(plan.sets), tuple)
        self.assertEqual(plan.last(), 1)
        plan = Plan("column", (("put",),))
        self.assertEqual((plan.kind, plan.sets, plan.job, plan.at), ("column", (("put",),), "", 0))
        self.assertEqual(plan.last(), 0)

    def test_named_arguments(self):
        self.assertEqual(Plan(kind="index", sets=[()], job="fill", at=0), Plan("index", [()], "fill"))

    def test_equality(self):
        plan = Plan("index", [(), ("put",)], "fill", 1)
        self.assertTrue(plan == Plan("index", ((), ("put",)), "fill", 1))
        self.assertFalse(plan != Plan("index", ((), ("put",)), "fill", 1))
        for other in (Plan("index", [(), ("put",)], "fill", 0), Plan("index", [(), ("put",)], "clean", 1),
                      Plan("index", [(), ("put",)]), Plan("index", [(), ("drop",)], "fill", 1),
                      Plan("column", [(), ("put",)], "fill", 1), ("index", ((), ("put",)), "fill", 1), None, 0, "x"):
            self.assertFalse(plan == other)
            self.assertTrue(plan != other)
        self.assertNotEqual(Plan("column", [()]), Plan("whole", [()]))

    def test_arguments_are_neither_changed_nor_kept(self):
        sets = [(), ("drop",)]
        plan = Plan("index", sets)
        self.assertEqual(sets, [(), ("drop",)])
        sets.append(("put",))
        self.assertEqual(plan.sets, ((), ("drop",)))

    def test_kind(self):
        for kind in ("", "Index", "indexes", None, 0, ["index"], ("index",), {}):
            self.bad("kind", kind, [()])

    def test_sets(self):
        for sets in ([], (), None, "", "ab", 3, {(): 1}, [()] * 41, [[]], [["put"]], ["put"], [("put", "drop")],
                     [("put", "put")], [("check",)], [(), ("read", "new")], [(1,)], [((),)], [(["put"],)], [None]):
            self.bad("sets", "index", sets)
        self.assertEqual(len(Plan("index", [()] * 40).sets), 40)
        self.assertEqual(len(Plan("index", ((),)).sets), 1)

    def test_job(self):
        for job in ("strip", "copy", "Fill", " ", None, 0, False, ("fill",), ["fill"], ()):
            self.bad("job", "index", [()], job)

    def test_at(self):
        for at in (-1, 2, 40, None, "0", True, False, 1.0):
            self.bad("at", "index", [(), ()], "fill", at)
        for at in (1, -1, None, False, True):
            self.bad("at", "index", [(), ()], "", at)
        self.assertEqual([Plan("index", [(), ()], "fill", at).at for at in (0, 1)], [0, 1])

    def test_first(self):
        for kind, duties in (("index", ("read",)), ("column", ("read",)), ("whole", ("read",)),
                             ("reference", ("check", "read")), ("moved", ("from new",)), ("unique", ("put", "read"))):
            self.bad("first", kind, [duties])
            self.bad("first", kind, [duties, ()], "", 0)
            # Only the first set needs first worlds.
            self.assertEqual(Plan(kind, [(), duties]).sets, ((), duties))

    def test_which_is_raised_first(self):
        self.bad("kind", "no", [("no",)], "no", -1)
        self.bad("sets", "index", [("no",)], "no", -1)
        self.bad("job", "index", [("read",)], "no", -1)
        self.bad("at", "index", [("read",)], "fill", -1)
        self.bad("at", "index", [("read",)], "", 1)
        self.bad("first", "index", [("read",)], "fill", 0)


class HeldTest(unittest.TestCase):
    def test_sets_between_stand_lag_times(self):
        plan = held(INDEX_ADD, 3)
        self.assertEqual(plan, Plan("index", [()] + [("drop",)] * 3 + [("drop", "put")] * 3 + [WHOLE], "fill", 6))
        self.assertEqual(held(REFERENCE_REMOVE, 2).sets,
                         (("check", "guard", "read"), ("check", "guard"), ("check", "guard"), ()))
        self.assertEqual((held(REFERENCE_REMOVE, 2).job, held(REFERENCE_REMOVE, 2).at), ("", 0))

    def test_lag_one_changes_nothing(self):
        self.assertEqual(held(INDEX_ADD, 1), INDEX_ADD)
        self.assertIsNot(held(INDEX_ADD, 1), INDEX_ADD)

    def test_first_and_last_stand_once(self):
        for sets in ([()], [(), WHOLE]):
            self.assertEqual(held(Plan("index", sets), 20), Plan("index", sets))

    def test_job_is_in_the_last_copy(self):
        sets = [(), ("drop",), ("put",), ()]
        self.assertEqual([held(Plan("index", sets, "fill", at), 4).at for at in range(4)], [0, 4, 8, 9])
        self.assertEqual(held(Plan("index", [()], "fill", 0), 4).at, 0)
        self.assertEqual(held(Plan("index", [(), ()], "fill", 1), 4).at, 1)

    def test_the_plan_is_not_changed(self):
        plan = Plan("index", [(), ("drop",), WHOLE], "fill", 1)
        held(plan, 5)
        self.assertEqual(plan, Plan("index", [(), ("drop",), WHOLE], "fill", 1))

    def test_bad_lag(self):
        for lag in BAD_LAGS:
            with self.assertRaises(BadLag) as caught:
                held(INDEX_ADD, lag)
            self.assertIs(caught.exception.lag, lag)
        self.assertEqual(len(held(Plan("index", [()] * 3), 20).sets), 22)

    def test_too_large(self):
        self.assertEqual(len(held(Plan("index", [()] * 40), 1).sets), 40)
        self.assertEqual(len(held(Plan("index", [()] * 21), 2).sets), 40)
        self.assertEqual(len(held(Plan("index", [()] * 4), 19).sets), 40)
        for many, lag, number in ((22, 2, 42), (4, 20, 42), (15, 3, 41), (40, 20, 762)):
            with self.assertRaises(TooLarge) as caught:
                held(Plan("index", [()] * many), lag)
            self.assertEqual(caught.exception.number, number)

    def test_bad_lag_ahead_of_too_large(self):
        with self.assertRaises(BadLag):
            held(Plan("index", [()] * 40), 21)


if __name__ == "__main__":
    unittest.main()

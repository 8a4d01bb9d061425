"""[21], [22]: tables in use, their servers, and the job."""

import copy
import unittest

from openchange.changeerrors import BadRows, NotNow
from openchange.database import Database
from openchange.errors import BadLag
from openchange.kinds import KINDS, kind_of
from openchange.plans import Plan
from tests.runs import runs_of
from tests.samples import (COLUMN_ADD, GUARDED, HASTY, INDEX_ADD, KEPT, MOVE, REFERENCE_ADD, REFERENCE_REMOVE,
                           SAFE_PLANS,
                           UNIQUE_ADD, WHOLE, sets_of)
from tests.test_plans import BAD_LAGS

TELL, BEGIN, WORK, SAVE, FALL, END = [(word,) for word in ("tell", "begin", "work", "save", "fall", "end")]
MOST = 1000000
EMPTY = {"index": {}, "unique": {}, "column": [], "whole": [], "moved": [], "reference": ([], {})}

NO_NUMBERS = (-1, MOST + 1, True, False, None, "1", 1.0, (1,), [1], 10 ** 6000)
NO_EVENTS = (None, 0, 1, True, "", "tell", [], ["tell"], {}, set(), (), ((),), (None,), ("",), ("Tell",), ("tell", 1),
             ("tell", "a"), ("leave",), ("stop",), ("start",), ("start", 1), ("start", None), ("start", ""),
             ("start", ["a"]),
             ("start", b"a"), ("start", "a", "b"), ("move",), ("move", 0), ("move", {}), ("stop", ["a"]), ("do",),
             ("do", "a"),
             ("do", 1, ("read", 1)), ("do", ["a"], ("read", 1)), ("do", "nobody", ("read", 1)), ("move", "nobody"),
             ("stop", "nobody"), (["tell"],), (("tell",),), ({},), (1, 2), (1, 2, 3), ("begin", 0), ("work", 0),
             ("end", 0),
             ("save", 0), ("fall", 0), ("deed", 0, "read"), b"tell", (b"tell",), 1.5, object(),
             ("no", "a", ("read", 1)))


class Same:
    """What claims to be equal to all."""

    def __eq__(self, other):
        return True

    __hash__ = None


def happened(plan, rows, events, element=None, lag=1):
    table = Database(plan, lag, rows, element)
    for event in events:
        table.happen(event)
    return table


def shown(table):
    """All that a table shows of itself."""
    return (dict(table.servers), table.high, table.phase, table.low(), table.focuses(),
            [table.world(focus) for focus in table.focuses()], table.is_clean())


class RowsTest(unittest.TestCase):
    def bad(self, plan, rows, element=None, focus=None):
        with self.assertRaises(BadRows) as caught:
            Database(plan, 1, rows, element)
        self.assertEqual(caught.exception.focus, focus)

    def worlds(self, plan, rows, element=None):
        table = Database(plan, 1, rows, element)
        return {focus: table.world(focus) for focus in table.focuses()}

    def test_at_first(self):
        for kind in KINDS:
            table = Database(Plan(kind, [(), ()]), 1, EMPTY[kind])
            self.assertEqual(shown(table), ({}, 0, "none", 0, [], [], True))
            self.assertIs(type(table.servers), dict)
            self.assertEqual(Database(Plan(kind, [()], kind_of(kind).jobs[0], 0), 1, EMPTY[kind]).phase, "before")

    def test_focuses_of_an_index(self):
        plan = Plan("index", [("drop", "put")])
        self.assertEqual(list(self.worlds(plan, {7: 5, 3: 6}, [])), [(3, 5), (3, 6), (7, 5), (7, 6)])
        told = self.worlds(plan, {7: 5, 3: 6}, [(5, 7), (6, 7), (4, 1), (5, 7)])
        self.assertEqual(list(told), [(key, value) for key in (1, 3, 7) for value in (4, 5, 6)])
        self.assertEqual([told[focus] for focus in sorted(told)], [
            ("none", 1), ("none", 0), ("none", 0), ("other", 0), ("other", 0), ("this", 0), ("other", 0), ("this", 1),
            ("other", 1)])

    def test_focuses_that_go(self):
        for plan, rows, deeds in ((Plan("index", [WHOLE]), {}, [("write", 1, 5), ("erase", 1)]),
                                  (Plan("unique", [KEPT]), {}, [("write", 1, 5), ("erase", 1)]),
                                  (Plan("moved", [()]), [], [("write", 1), ("erase", 1)]),
                                  (Plan("reference", [()]), ([], {}), [("write child", 1, 2), ("erase child", 1)])):
            table = happened(plan, rows, [("start", "a")])
            for deed, many in zip(deeds, (1, 0)):
                self.assertEqual((table.happen(("do", "a", deed)), len(table.focuses())), ("done", many))
        table = happened(Plan("index", [("drop", "put")]), {2: 6}, [("start", "a"), ("do", "a", ("erase", 2))],
                         [(5, 2), (6, 2)])
        self.assertEqual(table.focuses(), [(2, 5)])

    def test_focuses_of_unique(self):
        plan = Plan("unique", [("drop", "put")])
        self.assertEqual(self.worlds(plan, {3: 9, 1: 4, 2: 9}, {9: 2, 7: 1}), {
            4: ("this", "other", "other", 0), 7: ("other", "other", "other", 1), 9: ("other", "this", "this", 2)})
        self.assertEqual(list(self.worlds(plan, {3: 9, 1: 4, 2: 9}, {9: 2, 7: 1})), [4, 7, 9])

    def test_focuses_of_keys(self):
        for kind in ("column", "whole"):
            self.assertEqual(list(self.worlds(Plan(kind, [("put",)]), [9, 2, 5], [5, 8]).items()),
                             [(2, "bare"), (5, "full"), (9, "bare")])
        self.assertEqual(list(self.worlds(Plan("moved", [()]), [9, 2, 5], ([2, 8], [9, 2])).items()),
                         [(2, (1, 1)), (5, (0, 0)), (9, (0, 1))])

    def test_focuses_of_a_reference(self):
        plan = Plan("reference", [()])
        told = self.worlds(plan, ([4, 2], {8: 2, 5: 9}))
        self.assertEqual(list(told), [(2, 5), (2, 8), (4, 5), (4, 8), (9, 5), (9, 8)])
        self.assertEqual(list(told.values()), [(1, 0), (1, 1), (1, 0), (1, 0), (0, 1), (0, 0)])
        self.assertEqual(self.worlds(plan, ([4, 2], {})), {})

    def test_worlds_where_there_is_nothing(self):
        for kind, focus, world in (("index", (3, 4), ("none", 0)), ("unique", 3, ("none",) * 3 + (0,)),
                                   ("column", 3, "none"),
                                   ("whole", 3, "none"), ("moved", 3, ()), ("reference", (3, 4), (0, 0))):
            self.assertEqual(Database(Plan(kind, [()]), 1, EMPTY[kind]).world(focus), world)
        self.assertEqual(Database(Plan("index", [()]), 1, {3: 5}).world((3, 4)), ("other", 0))
        self.assertEqual(Database(Plan("reference", [()]), 1, ([3], {})).world((3, 4)), (1, 0))

    def test_lists_are_new(self):
        table = Database(INDEX_ADD, 1, {1: 5})
        table.focuses().clear()
        self.assertEqual(table.focuses(), [(1, 5)])

    def test_no_element_told(self):
        for duties in sets_of("index"):
            if kind_of("index").firsts(duties):
                kept = 1 if "put" in duties or "read" in duties else 0
                self.assertEqual(self.worlds(Plan("index", [duties]), {1: 5, 2: 5})[1, 5], ("this", kept))
        for kind in ("column", "whole"):
            for duties, row in (((), "bare"), (("put",), "full"), (("put", "read"), "full")):
                self.assertEqual(self.worlds(Plan(kind, [duties]), [1]), {1: row})
        for duties, held in (((), 0), (("drop",), 0), (("check",), 0), (("drop", "put"), 1), (("put",), 1), (KEPT, 1)):
            self.assertEqual(self.worlds(Plan("unique", [duties]), {3: 5, 2: 6})[5],
                             ("none", "other", "this", 3 * held))
        for duties in sets_of("moved"):
            if kind_of("moved").firsts(duties):
                self.assertEqual(self.worlds(Plan("moved", [duties]), [1]), {1: (
                    int("old" in duties or "from old" in duties), int("new" in duties or "from new" in duties))})

    def test_the_least_key_is_the_holder(self):
        self.assertEqual(self.worlds(Plan("unique", [("drop", "put")]), {3: 5, 2: 5, 1: 6})[5],
                         ("other", "this", "this", 2))
        self.assertEqual(self.worlds(Plan("unique", [("put",)]), {3: 5, 1: 5, 2: 5})[5], ("this", "this", "this", 1))

    def test_elements_that_are_told(self):
        self.assertEqual(self.worlds(Plan("index", [("drop", "put")]), {1: 5}, ()), {(1, 5): ("this", 0)})
        self.assertEqual(self.worlds(Plan("index", [WHOLE]), {1: 5}, ((5, 1), (5, 1))), {(1, 5): ("this", 1)})
        self.assertEqual(self.worlds(Plan("column", [("put",)]), (1, 2), (2,)), {1: "bare", 2: "full"})
        self.assertEqual(self.worlds(Plan("unique", [("drop", "put")]), {1: 5}, {}), {5: ("this", "none", "none", 0)})
        self.assertEqual(self.worlds(Plan("moved", [()]), (1,), ([1], ())), {1: (1, 0)})

    def test_full_keys_and_places_without_rows_make_no_difference(self):
        events = [("start", "a"), ("do", "a", ("write", 7))]
        table = happened(Plan("column", [(), ("put", "read")]), [1], events, [])
        self.assertEqual(table.world(7), "bare")
        table = happened(Plan("column", [("put",), ()]), [1], [TELL] + events, [7])
        self.assertEqual((table.world(7), table.focuses()), ("bare", [1, 7]))
        table = happened(Plan("moved", [(), (), ("from new", "from old")]), [], [TELL, TELL] + events[:1], ([7], [7]))
        self.assertEqual(table.happen(("do", "a", ("write", 7))), "done")
        self.assertEqual(table.happen(("do", "a", ("read", 7))), (None, None))

    def test_holders_and_entries_without_rows_are_there(self):
        self.assertEqual(self.worlds(Plan("index", [("drop", "put")]), {}, [(5, 1)]), {(1, 5): ("none", 1)})
        self.assertEqual(self.worlds(Plan("unique", [("drop", "put")]), {}, {5: 2}), {5: ("none", "none", "none", 2)})

    def test_bad_lag(self):
        for lag in BAD_LAGS:
            with self.assertRaises(BadLag) as caught:
                Database(INDEX_ADD, lag, None, None)
            self.assertIs(caught.exception.lag, lag)
        self.assertEqual(Database(INDEX_ADD, 20, {}).high, 0)

    def test_bad_rows_of_values(self):
        for kind, good in (("index", 5), ("unique", 2)):
            plan = Plan(kind, [("drop", "put")])
            for rows in (None, [], (), [(1, 5)], "", 0, {1}):
                self.bad(plan, rows)
            for number in NO_NUMBERS:
                self.bad(plan, {good: number})
                if not isinstance(number, list):
                    self.bad(plan, {3: 5, number: 5})
        for key in (0, 4, MOST):
            self.bad(Plan("unique", [()]), {key: 5})
            self.assertEqual(list(self.worlds(Plan("index", [()]), {key: MOST})), [(key, MOST)])

    def test_bad_entries(self):
        plan = Plan("index", [("drop", "put")])
        for element in (0, "", {}, {5: 1}, {(5, 1)}, (5, 1), [5], [None], [[5, 1]], [(5,)], [(5, 1, 0)], [()], True):
            self.bad(plan, {1: 5}, element)
        for number in NO_NUMBERS:
            self.bad(plan, {1: 5}, [(5, 1), (5, number)])
            self.bad(plan, {1: 5}, [(number, 1)])

    def test_bad_holders(self):
        plan = Plan("unique", [("drop", "put")])
        for element in (0, "", [], (), [(5, 1)], {5}, True):
            self.bad(plan, {1: 5}, element)
        for number in NO_NUMBERS + (0, 4):
            self.bad(plan, {1: 5}, {5: number})
        for number in NO_NUMBERS:
            if not isinstance(number, list):
                self.bad(plan, {1: 5}, {number: 1})

    def test_bad_keys(self):
        bad_rows = [0, "", "12", {}, {1: 5}, {1}, True, [1, 1], (1, 2, 1),
                    [[1]]] + [[2, number] for number in NO_NUMBERS]
        for kind in ("column", "whole"):
            for rows in bad_rows:
                self.bad(Plan(kind, [("put",)]), rows)
                self.bad(Plan(kind, [("put",)]), [1, 2], rows)
            self.bad(Plan(kind, [("put",)]), None)
        for rows in bad_rows:
            self.bad(Plan("moved", [()]), rows)
            self.bad(Plan("moved", [()]), [1, 2], rows)
            self.bad(Plan("moved", [()]), [1, 2], (rows, []))
            self.bad(Plan("moved", [()]), [1, 2], ([], rows))
        for element in ([[], []], (), ([],), ([], [], []), (None, []), ([], None)):
            self.bad(Plan("moved", [()]), [1], element)

    def test_bad_references(self):
        plan = Plan("reference", [()])
        for rows in (None, [], [[], {}], {}, (), ([],), ([], {}, []), ({}, []), (None, {}), ([], None), ([], []),
                     ([1, 1], {}),
                     ({1}, {}), ([[1]], {})):
            self.bad(plan, rows)
        for number in NO_NUMBERS:
            self.bad(plan, ([number], {}))
            self.bad(plan, ([1], {1: number}))
            if not isinstance(number, list):
                self.bad(plan, ([1], {number: 1}))
        for element in ((), [], {}, 0, False, "", ([], {})):
            self.bad(plan, ([1], {2: 1}), element)

    def test_first_worlds_that_cannot_be(self):
        self.bad(INDEX_ADD, {2: 5, 1: 5}, [(5, 2), (5, 1)], (1, 5))
        self.bad(INDEX_ADD, {2: 5, 1: 5}, [(6, 2)], (2, 6))
        self.bad(Plan("index", [WHOLE]), {2: 5, 1: 5}, [(5, 1), (6, 1), (4, 3)], (1, 6))
        self.bad(Plan("index", [WHOLE]), {2: 5, 1: 5}, [(5, 1), (4, 3)], (2, 5))
        self.bad(Plan("index", [WHOLE]), {2: 5, 1: 5}, [], (1, 5))
        self.bad(UNIQUE_ADD, {2: 5}, {5: 2, 4: 1}, 4)
        self.bad(Plan("unique", [KEPT]), {1: 5, 2: 5, 3: 4}, None, 5)
        self.bad(Plan("unique", [KEPT]), {1: 5, 2: 4}, {5: 1}, 4)
        for kind in ("column", "whole"):
            self.bad(Plan(kind, [()]), [3, 1, 2], [3, 2], 2)
            self.bad(Plan(kind, [("put", "read")]), [3, 1, 2], [1], 2)
        self.bad(Plan("reference", [("check", "guard", "read")]), ([1], {7: 1, 6: 2, 3: 4}), None, (2, 6))
        self.bad(Plan("moved", [("from old", "old")]), [4, 3], ([4], [3]), 3)
        self.bad(Plan("moved", [("from new", "from old", "new", "old")]), [4, 3], ([4, 3], []), 3)

    def test_the_first_one_of_all_focuses(self):
        for kind in KINDS:
            for plan, lag, rows, element, _ in runs_of(kind, 5, 40, 2):
                other = Plan(kind, [sets_of(kind)[-1]])
                table = Database(plan, lag, rows, element)
                firsts = kind_of(kind).firsts(other.sets[0])
                bad = [focus for focus in table.focuses() if table.world(focus) not in firsts]
                if element is not None or kind == "reference":
                    if bad:
                        self.bad(other, rows, element, bad[0])
                    else:
                        Database(other, lag, rows, element)

    def test_arguments_are_neither_changed_nor_kept(self):
        for plan, rows, element, deed in (
                (Plan("index", [("drop", "put")]), {1: 5}, [(5, 1)], ("write", 1, 6)),
                (Plan("unique", [("drop", "put")]), {1: 5}, {5: 1}, ("write", 1, 6)),
                (Plan("column", [("put",), ()]), [1, 2], [1], ("erase", 1)),
                (MOVE, [1, 2], ([1, 2], [1]), ("erase", 1)),
                (REFERENCE_ADD, ([1], {2: 1}), None, ("erase child", 2))):
            given = copy.deepcopy((rows, element))
            table = Database(plan, 1, rows, element)
            before = shown(table)
            table.happen(("start", "a"))
            table.happen(("do", "a", deed))
            self.assertEqual((rows, element), given)
            table = Database(plan, 1, rows, element)
            for given in (rows, element) + (rows if plan is REFERENCE_ADD else ()) + (element if plan is MOVE else ()):
                if isinstance(given, (list, dict)):
                    given.clear()
            self.assertEqual(shown(table), before)


class EventsTest(unittest.TestCase):
    def check_not(self, table, *events):
        """These events cannot happen, and trying them changes nothing."""
        before = shown(table)
        for event in events:
            self.assertIs(table.can(event), False, event)
            for ask in (lambda: table.happen(event), lambda: table.answers([event])):
                with self.assertRaises(NotNow) as caught:
                    ask()
                self.assertIs(caught.exception.event, event)
        self.assertEqual(shown(table), before)

    def check(self, table, *events):
        """These events can happen, one behind the other."""
        for event in events:
            self.assertIs(table.can(event), True, event)
            before = shown(table)
            self.assertIs(table.can(event), True)
            self.assertEqual(shown(table), before)
            self.assertIsNone(table.happen(event))

    def test_servers(self):
        table = Database(INDEX_ADD, 1, {})
        self.check_not(table, ("move", "a"), ("stop", "a"), ("start", ""), ("do", "a", ("read", 1)))
        self.check(table, ("start", "a"))
        self.assertEqual((table.servers, table.low()), ({"a": 0}, 0))
        self.check_not(table, ("start", "a"), ("move", "a"))
        self.check(table, TELL, ("start", "b"))
        self.assertEqual((table.servers, table.low(), table.high), ({"a": 0, "b": 1}, 0, 1))
        self.check_not(table, ("move", "b"), TELL)
        self.check(table, ("move", "a"))
        self.assertEqual((table.servers, table.low()), ({"a": 1, "b": 1}, 1))
        self.check_not(table, ("move", "a"))
        self.check(table, TELL, ("stop", "b"), ("start", "b"), ("stop", "a"))
        self.assertEqual((table.servers, table.low(), table.high), ({"b": 2}, 2, 2))
        self.check_not(table, ("stop", "a"), ("move", "a"), ("do", "a", ("read", 1)))
        self.check(table, ("stop", "b"))
        self.assertEqual((table.servers, table.low()), ({}, 2))

    def test_any_names(self):
        table = Database(INDEX_ADD, 1, {})
        names = [" ", "a b", "\n", "tell", "\u00e4", "x" * 1000]
        self.check(table, *[("start", name) for name in names])
        self.assertEqual(table.servers, dict.fromkeys(names, 0))

    def test_what_was_read_off_is_not_changed(self):
        table = Database(INDEX_ADD, 1, {})
        seen = []
        for event in (("start", "a"), TELL, ("move", "a"), ("start", "b"), ("stop", "a")):
            seen.append(table.servers)
            table.happen(event)
        self.assertEqual(seen, [{}, {"a": 0}, {"a": 0}, {"a": 1}, {"a": 1, "b": 1}])

    def test_tell(self):
        for lag in (1, 2, 3):
            table = happened(Plan("index", [()] * 6), {}, [("start", "a")], lag=lag)
            self.check(table, *[TELL] * lag)
            self.check_not(table, TELL)
            self.assertEqual((table.low(), table.high), (0, lag))
            self.check(table, ("move", "a"), TELL)
            self.check_not(table, TELL)
            self.check(table, ("stop", "a"), *[TELL] * (5 - lag - 1))
            self.check_not(table, TELL)
            self.assertEqual((table.low(), table.high), (5, 5))

    def test_tell_waits_for_the_job(self):
        table = happened(Plan("index", [(), (), ()], "fill", 1), {}, [("start", "a"), TELL], lag=3)
        self.check_not(table, TELL, BEGIN)
        self.check(table, ("move", "a"))
        self.check_not(table, TELL)
        self.check(table, BEGIN)
        self.check_not(table, TELL)
        self.check(table, END, TELL)
        self.assertEqual((table.phase, table.high), ("ended", 2))
        self.check_not(happened(HASTY, {}, []), TELL)
        self.check(happened(HASTY, {}, [BEGIN, END]), TELL)
        self.check(Database(Plan("index", [(), ()]), 1, {}), TELL)

    def test_begin(self):
        plan = Plan("index", [(), (), ()], "fill", 1)
        table = happened(plan, {}, [("start", "a")], lag=2)
        self.check_not(table, BEGIN)
        self.check(table, TELL)
        self.check_not(table, BEGIN)
        self.check(table, ("stop", "a"), BEGIN)
        self.assertEqual(table.phase, "under way")
        self.check_not(table, BEGIN)
        self.check(table, END)
        self.check_not(table, BEGIN, WORK, SAVE, FALL, END)
        self.check_not(Database(Plan("index", [()]), 1, {}), BEGIN, WORK, SAVE, FALL, END)

    def test_only_while_the_job_is_under_way(self):
        table = Database(HASTY, 1, {1: 5})
        self.check_not(table, WORK, SAVE, FALL, END)
        self.check(table, BEGIN, SAVE, FALL)
        self.check_not(table, END)
        self.check(table, WORK, SAVE, FALL, END)
        self.check_not(table, WORK, SAVE, FALL, END)

    def test_deeds_with_wrong_forms(self):
        forms = {"index": {"write": 2, "erase": 1, "read": 1}, "column": {"write": 1, "erase": 1, "read": 1},
                 "reference": {"write parent": 1, "erase parent": 1, "write child": 2, "erase child": 1, "read": 1}}
        forms.update({"unique": forms["index"], "whole": forms["column"], "moved": forms["column"]})
        words = sorted({word for told in forms.values() for word in told} | {"insert", "change", "", "this"})
        for kind in KINDS:
            table = happened(Plan(kind, [()]), EMPTY[kind], [("start", "a")])
            for word in words:
                for many in range(4):
                    event = ("do", "a", (word,) + (1,) * many)
                    if forms[kind].get(word) != many:
                        self.check_not(table, event)
                    else:
                        self.assertIs(table.can(event), True)
                        for at in range(many):
                            for number in NO_NUMBERS:
                                numbers = (1,) * at + (number,) + (1,) * (many - at - 1)
                                self.check_not(table, ("do", "a", (word,) + numbers))
                            for number in (0, 4, MOST):
                                numbers = (1,) * at + (number,) + (1,) * (many - at - 1)
                                is_key = kind == "unique" and at == 0 and word != "read"
                                self.assertIs(table.can(("do", "a", (word,) + numbers)), not is_key)
                        self.check_not(table, ("do", "a", list(event[2])), ("do", "b", event[2]), ("do", 1, event[2]))
            for deed in (None, 0, "read", (), [], ("read",), (1,), (None, 1), (["read"], 1), (("read", 1),),
                         {"read": 1}):
                self.check_not(table, ("do", "a", deed))

    def test_values_that_are_no_events(self):
        for kind in KINDS:
            table = happened(Plan(kind, [(), ()], kind_of(kind).jobs[0], 1), EMPTY[kind], [("start", "a")])
            self.check_not(table, *NO_EVENTS)
            table.happen(TELL)
            table.happen(("move", "a"))
            table.happen(BEGIN)
            self.check_not(table, *NO_EVENTS)

    def test_what_is_equal_to_events_and_longer_ones(self):
        table = happened(HASTY, {1: 5}, [("start", "a"), BEGIN])
        self.check_not(table, Same(), (Same(),), (Same(), Same()), ("stop", Same()), (Same(), "a"),
                       (Same(), "a", ("read", 5)),
                       ("do", "a", Same()), ("do", "a", (Same(), 5)), ("do", "a", ("read", Same())),
                       ("do", Same(), ("read", 5)), ("do", "a", ("read", 5), 0), ("do", "a", ("read", 5), ("read", 5)))

    def test_can_and_happen_are_of_one_mind(self):
        for plan, lag, rows, element, events in runs_of("reference", 9, 60, 20):
            table = Database(plan, lag, rows, element)
            for event in events:
                self.assertIs(table.can(event), True)
                table.happen(event)

    def test_answers(self):
        table = Database(Plan("index", [(), WHOLE]), 1, {1: 5})
        told = table.answers([TELL, ("start", "b"), ("do", "b", ("read", 5)), ("do", "b", ("write", 1, 5)),
                              ("start", "c"), ("do", "c", ("read", 6)), ("do", "c", ("write", 1, 6))])
        self.assertEqual(told, [(2, (), True), (3, "nothing", False), (5, (), False), (6, "done", False)])
        self.assertEqual([type(one) for one in told], [tuple] * 4)
        self.assertEqual(table.answers([]), [])
        self.assertEqual(table.answers((("do", "c", ("read", 6)),)), [(0, (1,), False)])

    def test_answers_up_to_what_cannot_happen(self):
        table = Database(Plan("index", [(), WHOLE]), 1, {1: 5})
        with self.assertRaises(NotNow) as caught:
            table.answers([("start", "a"), ("do", "a", ("write", 2, 7)), ("move", "a"), TELL])
        self.assertEqual(caught.exception.event, ("move", "a"))
        self.assertEqual((table.servers, table.high, table.world((2, 7))), ({"a": 0}, 0, ("this", 0)))

    def test_happen_returns_the_answer(self):
        table = Database(Plan("index", [(), WHOLE]), 1, {1: 5})
        events = [("start", "a"), TELL, ("do", "a", ("read", 5)), ("do", "a", ("erase", 1)), ("move", "a"),
                  ("stop", "a")]
        self.assertEqual([table.happen(event) for event in events], [None, None, (1,), "done", None, None])

    def test_neighbouring_versions_at_work_at_once(self):
        table = happened(HASTY, {1: 5}, [("start", "old"), BEGIN, WORK, END, TELL, ("start", "new")])
        self.assertEqual(table.happen(("do", "new", ("read", 5))), (1,))
        self.assertEqual(table.happen(("do", "old", ("write", 2, 5))), "done")
        self.assertEqual(table.answers([("do", "new", ("read", 5)), ("do", "old", ("read", 5))]),
                         [(0, (1,), True), (1, (1, 2), False)])


class JobTest(unittest.TestCase):
    def run_job(self, kind, job, rows, element, focuses, duties=(), worlds=()):
        """The worlds at focuses behind each step of a job."""
        table = happened(Plan(kind, [duties], job, 0), rows, [BEGIN], element)
        told = []
        while table.can(WORK):
            self.assertIs(table.can(END), False)
            table.happen(WORK)
            told.append([table.world(focus) for focus in focuses])
        self.assertIs(table.can(END), True)
        table.happen(END)
        self.assertEqual(table.phase, "ended")
        return told, [table.world(focus) for focus in focuses]

    def test_the_jobs_of_an_index(self):
        focuses = [(1, 5), (2, 6), (2, 5), (3, 7)]
        at_first = [("this", 0), ("this", 1), ("other", 1), ("none", 1)]
        behind = {"fill": [("this", 1), ("this", 1), ("other", 1), ("none", 1)],
                  "clean": [("this", 0), ("this", 1), ("other", 0), ("none", 0)],
                  "rebuild": [("this", 1), ("this", 1), ("other", 0), ("none", 0)],
                  "empty": [("this", 0), ("this", 0), ("other", 0), ("none", 0)]}
        for job, worlds in behind.items():
            told, last = self.run_job("index", job, {2: 6, 1: 5}, [(6, 2), (5, 2), (7, 3)], focuses, ("drop", "put"))
            self.assertEqual(told, [worlds[:1] + at_first[1:], worlds[:3] + at_first[3:], worlds])
            self.assertEqual(last, worlds)

    def test_the_jobs_of_a_column(self):
        for kind in ("column", "whole"):
            for job, behind in (("fill", "full"), ("strip", "bare")):
                told, last = self.run_job(kind, job, [5, 3], [3], [3, 5, 4], ("put",))
                self.assertEqual(told, [[behind, "bare", "none"], [behind, behind, "none"]])
                self.assertEqual(last, told[-1])

    def test_the_jobs_of_places(self):
        told, _ = self.run_job("moved", "copy", [1, 2, 3], ([1, 3], [2]), [1, 2, 3])
        self.assertEqual(told[-1], [(1, 1), (0, 0), (1, 1)])
        self.assertEqual(told[0], [(1, 1), (0, 1), (1, 0)])
        told, _ = self.run_job("moved", "back", [1, 2, 3], ([1, 3], [2]), [1, 2, 3])
        self.assertEqual(told[-1], [(0, 0), (1, 1), (0, 0)])

    def test_places_get_earlier_numbers_too(self):
        plan = Plan("moved", [("old",), (), ("from new", "from old")], "copy", 1)
        events = [("start", "a"), ("do", "a", ("write", 1)), ("do", "a", ("write", 1)), TELL, ("move", "a"),
                  ("do", "a", ("write", 1)), BEGIN, WORK, WORK, END, TELL, ("move", "a")]
        table = happened(plan, [1, 2], events, ([], []))
        self.assertEqual([table.happen(("do", "a", ("read", key))) for key in (1, 2)], [(2, 2), (None, None)])
        table = happened(Plan("moved", [("new",), (), ("from new", "from old")], "back", 1), [1, 2], events, ([2], []))
        self.assertEqual([table.happen(("do", "a", ("read", key))) for key in (1, 2)], [(2, 2), (None, None)])

    def test_the_jobs_of_a_reference(self):
        told, _ = self.run_job("reference", "sweep", ([1], {5: 1, 3: 2, 7: 2}), None, [(2, 3), (1, 5), (2, 7)])
        self.assertEqual(told, [[(0, 0), (1, 1), (0, 1)], [(0, 0), (1, 1), (0, 1)], [(0, 0), (1, 1), (0, 0)]])
        told, _ = self.run_job("reference", "check", ([1], {5: 1, 7: 1}), None, [(1, 5), (1, 7)])
        self.assertEqual(told, [[(1, 1), (1, 1)]] * 2)

    def test_the_jobs_of_unique(self):
        told, _ = self.run_job("unique", "fill", {1: 5, 3: 6}, {7: 2, 5: 1}, [5, 6, 7], ("drop", "put"))
        self.assertEqual([[world[3] for world in worlds] for worlds in told], [[1, 0, 2], [1, 0, 2], [1, 3, 2]])
        told, last = self.run_job("unique", "empty", {2: 5}, {7: 1, 5: 3}, [5, 7], ("drop", "put"))
        self.assertEqual([[world[3] for world in worlds] for worlds in told], [[0, 0], [0, 0]])

    def test_emptying_at_the_end_if_it_has_not_gone_over_key_3(self):
        plan = Plan("unique", [("put",)], "empty", 0)
        events = [("start", "a"), BEGIN, WORK, ("do", "a", ("write", 1, 6)), END]
        table = happened(plan, {2: 5}, events)
        self.assertEqual((table.world(5)[3], table.world(6)[3]), (0, 0))
        table = happened(plan, {3: 5}, events)
        self.assertEqual((table.world(5)[3], table.world(6)[3]), (0, 1))
        # It went over key 3, but fell, and behind that there was no key 3 left to go over.
        events = [("start", "a"), BEGIN, WORK, ("do", "a", ("write", 1, 6)), ("do", "a", ("erase", 3)), FALL, WORK,
                  ("do", "a", ("write", 1, 7)), END]
        table = happened(plan, {3: 5}, events)
        self.assertEqual((table.world(6)[3], table.world(7)[3]), (0, 0))
        plan = Plan("unique", [("put",)], "fill", 0)
        table = happened(plan, {2: 5}, [BEGIN, WORK, ("start", "a"), ("do", "a", ("write", 1, 6)), END])
        self.assertEqual((table.world(5)[3], table.world(6)[3]), (2, 1))

    def test_which_keys_it_goes_over(self):
        plan = Plan("unique", [("drop", "put")], "fill", 0)
        table = happened(plan, {3: 5}, [BEGIN], {7: 1})
        self.steps(table, 2)
        table = happened(Plan("index", [("drop", "put")], "fill", 0), {3: 5}, [BEGIN], [(7, 1), (8, 1), (8, 9)])
        self.steps(table, 3)
        for kind in ("column", "whole", "moved"):
            self.steps(happened(Plan(kind, [()], kind_of(kind).jobs[0], 0), [0, MOST], [BEGIN]), 2)
        self.steps(happened(Plan("reference", [()], "sweep", 0), ([1, 2, 3], {5: 4}), [BEGIN]), 1)

    def steps(self, table, many):
        for _ in range(many):
            table.happen(WORK)
        self.assertEqual((table.can(WORK), table.can(END)), (False, True))

    def test_keys_that_come_and_go(self):
        plan = Plan("column", [()], "fill", 0)
        start, write, erase = ("start", "a"), [("do", "a", ("write", key)) for key in range(9)], [
            ("do", "a", ("erase", key)) for key in range(9)]
        table = happened(plan, [2, 4], [start, BEGIN, WORK, write[1], write[3], WORK])
        self.assertEqual([table.world(key) for key in (1, 2, 3, 4)], ["bare", "full", "full", "bare"])
        table.happen(erase[4])
        self.assertIs(table.can(END), True)
        table.happen(write[8])
        self.assertIs(table.can(END), False)
        self.assertIs(table.can(WORK), True)

    def test_a_fall_ahead_of_a_save_and_behind_it(self):
        plan = Plan("column", [()], "fill", 0)
        start, write = ("start", "a"), [("do", "a", (word, key)) for key in (1, 2, 3) for word in ("erase", "write")]
        table = happened(plan, [1, 2, 3], [start, BEGIN, WORK, WORK, FALL, *write])
        self.check_fills(table, ["full", "full", "full"])
        table = happened(plan, [1, 2, 3], [start, BEGIN, WORK, SAVE, WORK, FALL, *write])
        self.check_fills(table, ["bare", "full", "full"])
        table = happened(plan, [1, 2, 3], [start, BEGIN, WORK, SAVE, FALL, *write])
        self.check_fills(table, ["bare", "full", "full"])
        table = happened(plan, [1, 2, 3], [start, BEGIN, WORK, WORK, SAVE, FALL, FALL, *write])
        self.check_fills(table, ["bare", "bare", "full"])
        table = happened(plan, [1, 2, 3], [start, BEGIN, WORK, SAVE, WORK, SAVE, WORK, FALL, *write])
        self.check_fills(table, ["bare", "bare", "full"])
        table = happened(plan, [1, 2, 3], [start, BEGIN, SAVE, WORK, WORK, WORK, FALL, *write])
        self.check_fills(table, ["full", "full", "full"])
        table = happened(plan, [1, 2, 3], [start, BEGIN, WORK, WORK, SAVE, WORK, *write])
        self.check_fills(table, ["bare", "bare", "bare"])

    def check_fills(self, table, worlds):
        while table.can(WORK):
            table.happen(WORK)
        table.happen(END)
        self.assertEqual([table.world(key) for key in (1, 2, 3)], worlds)

    def test_giving_up(self):
        for plan, rows, events in (
                (REFERENCE_ADD, ([1], {4: 1, 5: 2}), [TELL, BEGIN, WORK, WORK]),
                (Plan("unique", [(), GUARDED, KEPT], "fill", 1), {1: 5, 3: 5}, [TELL, BEGIN, WORK, WORK])):
            table = happened(plan, rows, events[:-1] + [("start", "a")])
            self.assertEqual(table.phase, "under way")
            self.assertIsNone(table.happen(WORK))
            for event in (None, ("start", "b"), ("stop", "a"), ("do", "b", ("read", 1)), ("stop", "b")):
                if event:
                    table.happen(event)
                self.assertEqual((table.phase, table.high), ("off", 1))
                EventsTest.check_not(self, table, TELL, BEGIN, WORK, SAVE, FALL, END)

    def test_giving_up_changes_nothing(self):
        table = happened(Plan("unique", [()], "fill", 0), {1: 5, 3: 5}, [BEGIN, WORK, WORK])
        self.assertEqual((table.phase, table.world(5)), ("off", ("this", "none", "this", 1)))
        table = happened(Plan("reference", [()], "check", 0), ([], {3: 5}), [BEGIN, WORK])
        self.assertEqual((table.phase, table.world((5, 3))), ("off", (0, 1)))

    def test_giving_up_for_an_entry_without_its_row(self):
        plan = Plan("unique", [("drop", "put")], "fill", 0)
        table = happened(plan, {2: 5}, [BEGIN, WORK, WORK], {5: 1})
        self.assertEqual(table.phase, "off")
        table = happened(plan, {2: 5}, [BEGIN, WORK, WORK, END], {6: 1})
        self.assertEqual((table.phase, table.world(5)[3]), ("ended", 2))


class CleanTest(unittest.TestCase):
    def test_the_world_at_all_focuses(self):
        for kind in KINDS:
            cleans = set()
            for plan, lag, rows, element, events in runs_of(kind, 13, 150, 30):
                table = happened(plan, rows, events, element, lag)
                lasts = kind_of(kind).firsts(plan.sets[-1])
                expected = all(table.world(focus) in lasts for focus in table.focuses())
                self.assertIs(table.is_clean(), expected)
                cleans.add(expected)
            self.assertEqual(cleans, {True, False}, kind)

    def test_what_is_left_over(self):
        self.assertIs(happened(Plan("index", [("drop", "put"), ()]), {1: 5}, []).is_clean(), False)
        self.assertIs(happened(Plan("index", [("drop", "put"), ()]), {1: 5}, [], []).is_clean(), True)
        self.assertIs(happened(Plan("index", [("drop", "put"), ()]), {}, [], [(5, 1)]).is_clean(), False)
        self.assertIs(happened(COLUMN_ADD, [1], []).is_clean(), False)
        self.assertIs(happened(Plan("moved", [("old",), ("from new", "new")]), [1, 2], [], ([], [1])).is_clean(), False)
        self.assertIs(happened(REFERENCE_ADD, ([1], {2: 3}), []).is_clean(), False)
        self.assertIs(happened(REFERENCE_REMOVE, ([1], {2: 1}), []).is_clean(), True)
        self.assertIs(happened(UNIQUE_ADD, {1: 5}, []).is_clean(), False)

    def test_safe_plans_are_through_without_a_wrong_answer(self):
        deeds = {"index": [("write", 1, 5), ("read", 5), ("write", 2, 5), ("erase", 1), ("read", 5), ("write", 1, 6)],
                 "unique": [("write", 1, 6), ("read", 6), ("write", 2, 5), ("erase", 1), ("write", 1, 7), ("read", 7)],
                 "column": [("write", 1), ("read", 1), ("erase", 2), ("write", 2), ("read", 2)],
                 "reference": [("write parent", 3), ("write child", 2, 3), ("read", 2), ("erase child", 2),
                               ("erase parent", 3)]}
        deeds["whole"] = deeds["moved"] = deeds["column"]
        for plan in SAFE_PLANS:
            rows = {"index": {1: 5, 3: 5}, "unique": {1: 6, 3: 8}, "reference": ([1], {7: 1})}.get(plan.kind, [1, 2, 9])
            table = happened(plan, rows, [("start", "a"), ("start", "b")])
            told = []
            for version in range(len(plan.sets)):
                if version:
                    told += table.answers([TELL, ("start", "c")])
                    for name in ("b", "c", "a"):
                        told += table.answers([("do", name, deed) for deed in deeds[plan.kind]])
                    told += table.answers([("stop", "c"), ("move", "a"), ("move", "b")])
                if plan.job and plan.at == version:
                    table.happen(BEGIN)
                    while table.can(WORK):
                        table.happen(WORK)
                        told += table.answers([("do", "b", deed) for deed in deeds[plan.kind]])
                    table.happen(END)
            self.assertEqual((table.low(), table.phase), (plan.last(), "ended" if plan.job else "none"))
            self.assertIs(table.is_clean(), True)
            self.assertIs(any(wrong for _, _, wrong in told), False)


if __name__ == "__main__":
    unittest.main()

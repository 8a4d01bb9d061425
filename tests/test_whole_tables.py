"""[1], [15]: judging by one row's worlds tells the same as runs of whole small tables with two servers."""

import unittest
from itertools import product

from openchange.judging import judge
from tests.samples import INDEX_ADD, INDEX_REMOVE, REFERENCE_ADD, REFERENCE_REMOVE, UNIQUE_ADD, UNIQUE_REMOVE, plans_of


class IndexTable:
    """A row of one key that has no value, a or b; beside it a tuple of the values with an entry."""

    keys = (0,)

    def states(self, kept):
        entries = [(), ("a",), ("a", "b"), ("b",)] if kept else [()]
        return list(product(("", "a", "b"), entries))

    def deeds(self, state, duties):
        row, entries = state
        for value in ("", "a", "b"):
            if value != row:
                behind = set(entries)
                if "drop" in duties:
                    behind.discard(row)
                if value and "put" in duties:
                    behind.add(value)
                yield (value, tuple(sorted(behind))), False
        if "read" in duties:
            for value in ("a", "b"):
                yield state, (value in entries) != (value == row)

    def worked(self, job, state, key):
        row, entries = state
        behind = set(entries)
        if job == "empty":
            behind = set()
        if job in ("clean", "rebuild"):
            behind &= {row}
        if row and job in ("fill", "rebuild"):
            behind.add(row)
        return (row, tuple(sorted(behind)))


class ReferenceTable:
    """Two parents that are there or not, and a child that is not there (2) or refers to one of them."""

    keys = (0,)

    def states(self, kept):
        return list(product((0, 1), (0, 1), (0, 1, 2)))

    def deeds(self, state, duties):
        parents, child = state[:2], state[2]
        for parent in (0, 1):
            if not parents[parent] or "guard" not in duties or child != parent:
                behind = list(state)
                behind[parent] = 1 - parents[parent]
                yield tuple(behind), False
            if child == 2 and (parents[parent] or "check" not in duties):
                yield (*parents, parent), False
        yield (*parents, 2), False
        if "read" in duties:
            yield state, child != 2 and not parents[child]

    def worked(self, job, state, key):
        if state[2] == 2 or state[state[2]]:
            return state
        return None if job == "check" else (*state[:2], 2)


class UniqueTable:
    """Rows of three keys that have no value, a or b; beside them the holders of a and of b, 0 for none."""

    keys = (1, 2, 3)

    def states(self, kept):
        holders = (0, 1, 2, 3) if kept else (0,)
        return list(product(("", "a", "b"), ("", "a", "b"), ("", "a", "b"), holders, holders))

    def deeds(self, state, duties):
        rows = state[:3]
        for key, value in product(self.keys, ("", "a", "b")):
            old = rows[key - 1]
            if value == old:
                continue
            holders = {"a": state[3], "b": state[4]}
            if value and "check" in duties and holders[value] not in (0, key):
                yield state, value not in rows
                continue
            if value and "put" in duties:
                holders[value] = key
            if old and "drop" in duties and holders[old] == key:
                holders[old] = 0
            yield (*rows[:key - 1], value, *rows[key:], holders["a"], holders["b"]), False
        if "read" in duties:
            for value, holder in (("a", state[3]), ("b", state[4])):
                yield state, [key for key in self.keys if rows[key - 1] == value] != [holder] * (holder > 0)

    def worked(self, job, state, key):
        rows, holders = state[:3], {"a": state[3], "b": state[4]}
        value = rows[key - 1]
        if job == "empty":
            holders = {"a": 0, "b": 0}
        elif value:
            if holders[value] not in (0, key):
                return None
            holders[value] = key
        return (*rows, holders["a"], holders["b"])


def fair_states(table, duties):
    """The states from which servers with these duties alone never come to a wrong answer."""
    fair = set(table.states(bool(duties)))
    while True:
        kept = {state for state in fair
                if all(not wrong and behind in fair for behind, wrong in table.deeds(state, duties))}
        if kept == fair:
            return fair
        fair = kept


def steps(table, plan, lag, run):
    """What can happen next in a run of a table: pairs of a run behind it, and whether an answer was wrong."""
    servers, high, phase, gone, state = run
    low = min(servers)
    if high < plan.last() and high < low + lag and (high != plan.at or phase == "ended"):
        yield (servers, high + 1, phase, gone, state), False
    for at, version in enumerate(servers):
        if version < high:
            yield (tuple(sorted((servers[1 - at], version + 1))), high, phase, gone, state), False
        for behind, wrong in table.deeds(state, plan.sets[version]):
            yield (servers, high, phase, gone, behind), wrong
    if phase == "before" and low == high == plan.at:
        yield (servers, high, "under way", 0, state), False
    if phase == "under way":
        if gone < len(table.keys):
            behind = table.worked(plan.job, state, table.keys[gone])
            if behind is not None:
                yield (servers, high, phase, gone + 1, behind), False
            yield (servers, high, phase, 0, state), False
        else:
            yield (servers, high, "ended", 0, state), False


def never_wrong(table, plan, lag):
    """Whether no run of a table goes wrong."""
    last = fair_states(table, plan.sets[-1])
    phase = "before" if plan.job else "ended"
    runs = [((0, 0), 0, phase, 0, state) for state in fair_states(table, plan.sets[0])]
    met = set(runs)
    for run in runs:
        servers, _, phase, _, state = run
        if min(servers) == plan.last() and phase == "ended" and state not in last:
            return False
        for behind, wrong in steps(table, plan, lag, run):
            if wrong:
                return False
            if behind not in met:
                met.add(behind)
                runs.append(behind)
    return True


class WholeTablesTest(unittest.TestCase):
    def compare(self, table, plans, lag):
        safe = [plan for plan in plans if never_wrong(table, plan, lag)]
        self.assertEqual([plan.sets + (plan.job, plan.at) for plan in plans if judge(plan, lag)],
                         [plan.sets + (plan.job, plan.at) for plan in safe])
        self.assertTrue(0 < len(safe) < len(plans))

    def test_index(self):
        self.compare(IndexTable(), plans_of("index", 2), 1)
        self.compare(IndexTable(), [INDEX_ADD, INDEX_REMOVE] + plans_of("index", 3, 31), 1)

    def test_reference(self):
        self.compare(ReferenceTable(), plans_of("reference", 2), 1)
        self.compare(ReferenceTable(), [REFERENCE_ADD, REFERENCE_REMOVE] + plans_of("reference", 3, 31), 1)

    def test_unique(self):
        self.compare(UniqueTable(), [UNIQUE_ADD, UNIQUE_REMOVE] + plans_of("unique", 2, 41), 1)


if __name__ == "__main__":
    unittest.main()

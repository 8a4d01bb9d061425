"""Tables and runs of them, chosen by fixed seeds."""

from random import Random

from openchange.changeerrors import BadRows
from openchange.database import Database
from tests.samples import SAFE_PLANS, WRONG_PLANS, plans_of

# Keys and values are few, so that deeds and jobs meet.
FEW = (0, 1, 3)


def some(chance, items):
    return [item for item in items if chance.random() < 0.6]


def rows_of(kind, chance):
    """Rows of a kind, and perhaps what is kept beside them."""
    if kind in ("index", "unique"):
        keys = (1, 2, 3) if kind == "unique" else FEW
        rows = {key: chance.choice(FEW) for key in some(chance, keys)}
        if kind == "index":
            element = some(chance, [(value, key) for value in FEW for key in keys])
        else:
            element = {value: chance.choice(keys) for value in some(chance, FEW)}
    elif kind == "reference":
        return (some(chance, FEW), {key: chance.choice(FEW) for key in some(chance, FEW)}), None
    else:
        rows = some(chance, FEW)
        element = (some(chance, FEW), some(chance, FEW)) if kind == "moved" else some(chance, FEW)
    return rows, element if chance.random() < 0.4 else None


def deeds_of(kind):
    """All deeds of a kind with few keys and values."""
    if kind == "reference":
        return ([(word, key) for word in ("write parent", "erase parent", "erase child", "read") for key in FEW]
                + [("write child", key, parent) for key in FEW for parent in FEW])
    if kind in ("index", "unique"):
        keys = (1, 2, 3) if kind == "unique" else FEW
        return ([("write", key, value) for key in keys for value in FEW] + [("erase", key) for key in keys]
                + [("read", value) for value in FEW])
    return [(word, key) for word in ("write", "erase", "read") for key in FEW]


def all_focuses(kind):
    """All focuses with few keys and values, and some with others."""
    few = FEW + (2, 7)
    if kind in ("index", "reference"):
        return [(first, second) for first in few for second in few]
    return list(few)


def table_of(plan, chance):
    """A lag, rows and an element that make a table with a plan, None if none was found."""
    lag = chance.choice((1, 1, 1, 2, 3))
    for _ in range(30):
        rows, element = rows_of(plan.kind, chance)
        try:
            Database(plan, lag, rows, element)
        except BadRows:
            continue
        return lag, rows, element
    return None


def next_event(table, kind, chance):
    """An event that can happen now."""
    alone = [(word,) for word in ("tell", "begin", "work", "save", "fall", "end", "tell", "begin", "work", "end")]
    served = [(word, name) for word in ("start", "move", "move", "stop") for name in "abc"]
    ready = [event for event in alone + served if table.can(event)]
    if not table.servers or (ready and chance.random() < 0.45):
        return chance.choice(ready)
    return ("do", chance.choice(sorted(table.servers)), chance.choice(deeds_of(kind)))


def chosen_plans(kind, chance, many):
    """Plans of a kind, safe ones and others."""
    known = [plan for plan in SAFE_PLANS + WRONG_PLANS if plan.kind == kind]
    step = {"unique": 601, "moved": 101, "index": 53, "reference": 29}.get(kind, 7)
    small = plans_of(kind, 2, step // 6 + 1) + plans_of(kind, 3, step)
    return [chance.choice(known if chance.random() < 0.5 else small) for _ in range(many)]


def runs_of(kind, seed, many, length):
    """Tables with plans, and events that happen there: tuples of a plan, lag, rows, element and events.

    The events end behind a wrong answer, and where the job gives up.
    """
    chance = Random(seed)
    for plan in chosen_plans(kind, chance, many):
        told = table_of(plan, chance)
        if told is None:
            continue
        table = Database(plan, *told)
        events = []
        for _ in range(chance.randrange(length)):
            events.append(next_event(table, kind, chance))
            answers = table.answers(events[-1:])
            if table.phase == "off" or (answers and answers[0][2]):
                break
        yield (plan, *told, events)

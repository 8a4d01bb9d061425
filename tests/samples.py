"""Plans and helpers that several tests use."""

from itertools import combinations, product

from openchange.kinds import KINDS, kind_of
from openchange.errors import BadPlan
from openchange.plans import Plan

WHOLE = ("drop", "put", "read")
GUARDED = ("check", "drop", "put")
KEPT = ("check", "drop", "put", "read")

HASTY = Plan("index", [(), WHOLE], "fill", 0)
INDEX_ADD = Plan("index", [(), ("drop",), ("drop", "put"), WHOLE], "fill", 2)
INDEX_REMOVE = Plan("index", [WHOLE, ("drop", "put"), ()], "empty", 2)
UNIQUE_ADD = Plan("unique", [(), ("drop",), GUARDED, KEPT], "fill", 2)
UNIQUE_REMOVE = Plan("unique", [KEPT, GUARDED, ("drop", "put"), ()], "empty", 3)
COLUMN_ADD = Plan("column", [(), ("put",), ("put", "read")], "fill", 1)
COLUMN_REMOVE = Plan("column", [("put", "read"), ("put",), ()], "strip", 2)
WHOLE_ADD = Plan("whole", [(), ("put",), ("put", "read")], "fill", 1)
WHOLE_REMOVE = Plan("whole", [("put", "read"), ("put",), ()], "strip", 2)
REFERENCE_ADD = Plan("reference", [(), ("check", "guard"), ("check", "guard", "read")], "check", 1)
REFERENCE_REMOVE = Plan("reference", [("check", "guard", "read"), ("check", "guard"), ()])
MOVE = Plan("moved", [("from old", "old"), ("from old", "new", "old"), ("from new", "new", "old"),
                      ("from new", "new")], "copy", 1)

SAFE_PLANS = [INDEX_ADD, INDEX_REMOVE, UNIQUE_ADD, UNIQUE_REMOVE, COLUMN_ADD, COLUMN_REMOVE, WHOLE_ADD,
              WHOLE_REMOVE, REFERENCE_ADD, REFERENCE_REMOVE, MOVE]

# Plans of each kind that go wrong for the lag 1, by readings and by what is left over.
WRONG_PLANS = [
    HASTY,
    Plan("index", [(), ("put",), WHOLE], "rebuild", 1),
    Plan("index", [WHOLE, ()]),
    Plan("column", [(), ("put", "read")], "fill", 0),
    Plan("column", [("put",), ()], "strip", 0),
    Plan("whole", [(), ("put",), ("read",)], "fill", 1),
    Plan("whole", [("put", "read"), ()]),
    Plan("reference", [(), ("check", "read")], "sweep", 1),
    Plan("reference", [(), ("check", "guard", "read")]),
    Plan("moved", [("from old", "old"), ("from new", "new")], "copy", 0),
    Plan("moved", [("from old", "old"), ("from old", "new")]),
    Plan("unique", [(), KEPT], "fill", 0),
    Plan("unique", [(), ("check", "put"), KEPT]),
]


def sets_of(kind):
    """All sets of duties of a kind, as ascending tuples."""
    duties = kind_of(kind).duties
    return [chosen for many in range(len(duties) + 1) for chosen in combinations(duties, many)]


def plans_of(kind, many, step=1):
    """All plans of a kind with so many versions, or one in so many of them."""
    jobs = [("", 0)] + [(job, at) for job in kind_of(kind).jobs for at in range(many)]
    chosen = list(product(product(sets_of(kind), repeat=many), jobs))[::step]
    told = []
    for sets, (job, at) in chosen:
        try:
            told.append(Plan(kind, sets, job, at))
        except BadPlan as error:
            assert error.part == "first"
    return told


def small_plans():
    """Plans of all kinds, of one to three versions."""
    told = []
    for kind in KINDS:
        steps = {"unique": (1, 59, 1601), "moved": (1, 5, 211), "index": (1, 5, 101)}.get(kind, (1, 1, 11))
        for many in (1, 2, 3):
            told.extend(plans_of(kind, many, steps[many - 1]))
    return told


def plans_between(kind, first, last, most):
    """All plans of a kind from one set to another with at most so many versions, in the order of [13]."""
    told = []
    for many in range(1, most + 1):
        if many == 1 and first != last:
            continue
        for between in product(sets_of(kind), repeat=max(many - 2, 0)):
            sets = (first,) if many == 1 else (first, *between, last)
            told.append((many, False, "", 0, sets))
            told.extend((many, True, job, at, sets) for job in kind_of(kind).jobs for at in range(many))
    return [Plan(kind, sets, job, at) for _, _, job, at, sets in sorted(told)]


def triple_of(plan):
    return (plan.sets, plan.job, plan.at)

"""Recipes: the plans by which elements are added and removed."""

from openchange.plans import Plan

RECIPES = {
    ("add", "column"): (((), ("put",), ("put", "read")), "fill", 1),
    ("remove", "column"): ((("put", "read"), ("put",), ()), "strip", 2),
    ("add", "index"): (((), ("drop",), ("drop", "put"), ("drop", "put", "read")), "fill", 2),
    ("remove", "index"): ((("drop", "put", "read"), ("drop", "put"), ()), "empty", 2),
    ("add", "reference"): (((), ("check", "guard"), ("check", "guard", "read")), "check", 1),
    ("remove", "reference"): ((("check", "guard", "read"), ("check", "guard"), ()), "", 0),
    ("add", "unique"): (
        ((), ("drop",), ("check", "drop", "put"), ("check", "drop", "put", "read")), "fill", 2),
    ("remove", "unique"): (
        (("check", "drop", "put", "read"), ("check", "drop", "put"), ("drop", "put"), ()), "empty", 3),
}

MOVE = (
    (("from old", "old"), ("from old", "new", "old"), ("from new", "new", "old"), ("from new", "new")), "copy", 1)


def recipe(kind, word):
    """The plan by which an element of a kind is added, removed or moved."""
    sets, job, at = MOVE if kind == "moved" else RECIPES[(word, kind)]
    return Plan(kind, sets, job, at)

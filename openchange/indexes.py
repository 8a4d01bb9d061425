"""The kind "index": a row of one key, and the entry of this key and a value."""

ROWS = ("none", "other", "this")


def index_worlds():
    """All pairs of a row and of 1 or 0 for the entry."""
    return [(row, entry) for row in ROWS for entry in (0, 1)]


def entry_behind(row, new, entry, duties):
    """The entry behind a write by which a row becomes another one."""
    if new == "this" and "put" in duties:
        return 1
    if row == "this" and "drop" in duties:
        return 0
    return entry


def entry_fault(row, entry):
    """What is wrong about reading by the entry."""
    if row == "this" and entry == 0:
        return "missing"
    if row != "this" and entry == 1:
        return "ghost"
    return ""


def index_deeds(world, duties):
    """The deeds of servers with these duties, with worlds behind them and faults."""
    row, entry = world
    told = [(new, (new, entry_behind(row, new, entry, duties)), "") for new in ROWS if new != row]
    if "read" in duties:
        told.append(("read", world, entry_fault(row, entry)))
    return told


def index_worked(job, world):
    """The world behind a job's work."""
    row, entry = world
    if job == "empty":
        return (row, 0)
    if row == "this" and job in ("fill", "rebuild"):
        return (row, 1)
    if row != "this" and job in ("clean", "rebuild"):
        return (row, 0)
    return world

"""The kind "unique": rows of three keys, and the key that holds the value."""

from openchange.indexes import ROWS

KEYS = (1, 2, 3)


def unique_worlds():
    """All tuples of three rows and of the holder, 0 for nobody."""
    return [(first, second, third, holder) for first in ROWS for second in ROWS for third in ROWS
            for holder in (0, 1, 2, 3)]


def unique_deeds(world, duties):
    """The deeds of servers with these duties, with worlds behind them and faults."""
    told = [_write(world, duties, key, new) for key in KEYS for new in ROWS if new != world[key - 1]]
    if "read" in duties:
        told.append(("read", world, _read_fault(world)))
    return told


def _write(world, duties, key, new):
    """The deed by which the row of a key becomes another one."""
    deed = f"{new} {key}"
    if new == "this" and "check" in duties and world[3] not in (0, key):
        # The row itself is not this one yet, so any that is this is another one.
        return (deed, world, "" if "this" in world[:3] else "refused")
    rows = list(world[:3])
    rows[key - 1] = new
    return (deed, (*rows, _holder_behind(world, duties, key, new)), "")


def _holder_behind(world, duties, key, new):
    """The holder behind a write that was not refused."""
    holder = world[3]
    if new == "this" and "put" in duties:
        return key
    if world[key - 1] == "this" and "drop" in duties and holder == key:
        return 0
    return holder


def _read_fault(world):
    """What is wrong about reading by the holder."""
    holder = world[3]
    many = len([row for row in world[:3] if row == "this"])
    if many > 1:
        return "twice"
    if holder == 0:
        return "missing" if many == 1 else ""
    return "" if world[holder - 1] == "this" else "ghost"


def unique_worked(job, world, part):
    """The world behind a job's work at a row, None if it gives up."""
    first, second, third, holder = world
    if job == "empty":
        return (first, second, third, 0)
    key = part + 1
    if world[part] != "this" or holder == key:
        return world
    return (first, second, third, key) if holder == 0 else None

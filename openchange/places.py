"""The kind "moved": a row that may be kept in an old and in a new place."""


def moved_worlds():
    """No row, and all pairs of 1 or 0 for the old and for the new place."""
    return [()] + [(old, new) for old in (0, 1) for new in (0, 1)]


def moved_deeds(world, duties):
    """The deeds of servers with these duties, with worlds behind them and faults."""
    written = (1 if "old" in duties else 0, 1 if "new" in duties else 0)
    if world == ():
        told = [("insert", written, "")]
    else:
        told = [("change", written, ""), ("erase", (), "")]
    if "from old" in duties or "from new" in duties:
        told.append(("read", world, _read_fault(world, duties)))
    return told


def _read_fault(world, duties):
    """What is wrong about reading from the places that are duties."""
    if world == ():
        return ""
    old, new = world
    if "from old" in duties and old == 0:
        return "stale old"
    if "from new" in duties and new == 0:
        return "stale new"
    return ""


def moved_worked(job, world):
    """The world behind a job's work."""
    if world == ():
        return world
    old, new = world
    return (old, old) if job == "copy" else (new, new)

"""The kind "reference": a parent, and a child that refers to it."""

ORPHAN = (0, 1)


def reference_worlds():
    """All pairs of 1 or 0 for the parent and for the child."""
    return [(parent, child) for parent in (0, 1) for child in (0, 1)]


def reference_deeds(world, duties):
    """The deeds of servers with these duties, with worlds behind them and faults."""
    parent, child = world
    told = []
    if parent == 0:
        told.append(("insert parent", (1, child), ""))
    elif child == 0 or "guard" not in duties:
        told.append(("erase parent", (0, child), ""))
    if child == 1:
        told.append(("erase child", (parent, 0), ""))
    elif parent == 1 or "check" not in duties:
        told.append(("insert child", (parent, 1), ""))
    if "read" in duties:
        told.append(("read", world, "orphan" if world == ORPHAN else ""))
    return told


def reference_worked(job, world):
    """The world behind a job's work, None if it gives up."""
    if world != ORPHAN:
        return world
    return None if job == "check" else (0, 0)

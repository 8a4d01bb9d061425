"""The kinds "column" and "whole": a row that has a column or lacks it."""


def column_worlds():
    """No row, a row without the column, and one with it."""
    return ["none", "bare", "full"]


def column_deeds(world, duties):
    """The deeds of servers that write their own columns alone."""
    return _deeds(world, duties, world)


def whole_deeds(world, duties):
    """The deeds of servers that write whole rows."""
    return _deeds(world, duties, "bare")


def _deeds(world, duties, unput):
    """The deeds, where a change without the duty put makes a row what unput tells."""
    if world == "none":
        told = [("insert", "full" if "put" in duties else "bare", "")]
    else:
        told = [("change", "full" if "put" in duties else unput, ""), ("erase", "none", "")]
    if "read" in duties:
        told.append(("read", world, "bare" if world == "bare" else ""))
    return told


def column_worked(job, world):
    """The world behind a job's work."""
    if job == "fill" and world == "bare":
        return "full"
    if job == "strip" and world == "full":
        return "bare"
    return world

"""The worlds and moves of [38] and [39] once more, written down independently of the package's own, for comparison."""

WORLDS = [(row, entry) for row in ("this", "other", "bare", "none") for entry in (1, 0)]


def sets_at(leaning, version):
    told = []
    for plan, begins in ((leaning.column, 0), (leaning.index, leaning.offset)):
        number = version - begins
        if number < 0:
            number = 0
        if number > len(plan.sets) - 1:
            number = len(plan.sets) - 1
        told.append(plan.sets[number])
    return tuple(told)


def last(leaning):
    return max(len(leaning.column.sets) - 1, leaning.offset + len(leaning.index.sets) - 1)


def write(world, new, index):
    """The world behind a row's becoming another one."""
    row, entry = world
    if row != "this" and new == "this" and "put" in index:
        entry = 1
    if row == "this" and new != "this" and "drop" in index:
        entry = 0
    return (new, entry)


def deeds(kind, world, duties):
    """A dict from the deeds to the worlds behind them and the faults."""
    column, index = duties
    row, entry = world
    can = {"none"}
    if "put" in column:
        can |= {"this", "other"}
    elif row == "none" or kind == "whole":
        can |= {"bare"}
    told = {new: (write(world, new, index), "") for new in can - {row}}
    if "read" in column:
        told["read column"] = (world, "bare" if row == "bare" else "")
    if "read" in index:
        fault = {("this", 0): "missing", ("other", 1): "ghost", ("bare", 1): "ghost", ("none", 1): "ghost"}
        told["read index"] = (world, fault.get(world, ""))
    return told


def firsts(kind, duties):
    """Worlds from which no deeds, one behind the other, ever lead to a fault, or out of what can be."""
    column, index = duties
    good = []
    for first in WORLDS:
        met = [first]
        for world in met:
            met += [behind for behind, _ in deeds(kind, world, duties).values() if behind not in met]
        faulty = any(fault for world in met for _, fault in deeds(kind, world, duties).values())
        kept = all((column or row in ("none", "bare")) and (index or not entry) for row, entry in met)
        if kept and not faulty:
            good.append(first)
    return good


def jobs(leaning):
    """The words of the jobs, with their names and versions."""
    column, index = leaning.column, leaning.index
    told = [("column", column.job, column.at)] if column.job else []
    return told + ([("index", index.job, index.at + leaning.offset)] if index.job else [])


def works(leaning, word, job, world):
    """A dict from rows, as moves name them, to the worlds behind a job's work."""
    row, entry = world
    if word == "index":
        if job == "empty" or (row != "this" and job in ("clean", "rebuild")):
            entry = 0
        if row == "this" and job in ("fill", "rebuild"):
            entry = 1
        return {"": (row, entry)}
    index = sets_at(leaning, leaning.column.at)[1]
    if job == "fill":
        return {new: write(world, new, index) for new in ("this", "other")} if row == "bare" else {"": world}
    return {"": write(world, "bare", index) if row in ("this", "other") else world}


def moves(leaning, lag, standing):
    """A dict from the moves to the standings behind them and their faults."""
    low, high, phases, world = standing
    told = {}
    hold = [at for (_, _, at), phase in zip(jobs(leaning), phases) if phase != 3]
    if high < last(leaning) and high + 1 - low <= lag and high not in hold:
        told[("tell",)] = ((low, high + 1, phases, world), "")
    if low < high:
        told[("leave",)] = ((low + 1, high, phases, world), "")
    for number, (word, job, at) in enumerate(jobs(leaning)):
        def to(phase):
            changed = list(phases)
            changed[number] = phase
            return tuple(changed)
        if phases[number] == 0 and low == at and high == at:
            told[("begin", word)] = ((low, high, to(1), world), "")
        if phases[number] in (1, 2):
            for row, behind in works(leaning, word, job, world).items():
                told[("work", word, row)] = ((low, high, to(2), behind), "")
        if phases[number] == 2:
            told[("end", word)] = ((low, high, to(3), world), "")
    seen = []
    for version in range(low, high + 1):
        duties = sets_at(leaning, version)
        if duties not in seen:
            seen.append(duties)
            for deed, (behind, fault) in deeds(leaning.column.kind, world, duties).items():
                told[("deed", version, deed)] = ((low, high, phases, behind), fault)
    return told


def beginning(leaning, world):
    return (0, 0, tuple(0 for _ in jobs(leaning)), world)


def is_left_over(leaning, standing):
    low, _, phases, world = standing
    return (low == last(leaning) and all(phase == 3 for phase in phases)
            and world not in firsts(leaning.column.kind, sets_at(leaning, last(leaning))))


def fewest(leaning, lag):
    """The least number of moves by which it goes wrong, None if it is safe; and all standings met."""
    lasts = firsts(leaning.column.kind, sets_at(leaning, last(leaning)))

    def left_over(standing):
        return (standing[0] == last(leaning) and all(phase == 3 for phase in standing[2])
                and standing[3] not in lasts)

    level = {beginning(leaning, world) for world in firsts(leaning.column.kind, sets_at(leaning, 0))}
    met, number = set(level), 0
    while level:
        if any(left_over(standing) for standing in level):
            return number, met
        number += 1
        told = [one for standing in level for one in moves(leaning, lag, standing).values()]
        if any(fault for _, fault in told):
            return number, met
        level = {behind for behind, _ in told} - met
        met |= level
    return None, met

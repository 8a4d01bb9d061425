"""The moves of [11] once more, written down independently of the package's own, for comparison."""

from openchange.kinds import kind_of
from openchange.plans import Plan


class Parted:
    """The kind of [42] once more: each whole deed as two steps, one behind the other."""

    parts = 1

    def __init__(self, orders):
        self.orders = orders

    def worlds(self):
        return kind_of("index").worlds()

    def worked(self, job, world, part):
        return kind_of("index").worked(job, world, part)

    def deeds(self, world, duties):
        row, entry = world
        told = []
        for new in ("none", "this", "other"):
            if new == row:
                continue
            steps, order = ["row"], None
            if new == "this" and "put" in duties:
                order, change = self.orders[0], 1
            elif row == "this" and "drop" in duties:
                order, change = self.orders[1], 0
            if order:
                steps = ["entry", "row"] if order == "ahead" else ["row", "entry"]
            behind = [row, entry]
            for number, step in enumerate(steps):
                behind[0 if step == "row" else 1] = new if step == "row" else change
                word = new if number + 1 == len(steps) else new + " fallen"
                told.append((word, tuple(behind), ""))
        if "read" in duties or "look" in duties:
            missing = world == ("this", 0)
            ghost = entry == 1 and row != "this" and "read" in duties
            told.append(("read", world, "missing" if missing else "ghost" if ghost else ""))
        return told

    def firsts(self, duties):
        """Worlds from which no deeds, one behind the other, ever lead to a fault, or out of what can be."""
        good = []
        for first in self.worlds():
            met = [first]
            for world in met:
                met += [behind for _, behind, _ in self.deeds(world, duties) if behind not in met]
            faults = [fault for world in met for _, _, fault in self.deeds(world, duties) if fault]
            if not faults and (duties or all(world[1] == 0 for world in met)):
                good.append(first)
        return good


def kind_for(plan):
    return kind_of(plan.kind) if isinstance(plan, Plan) else Parted(plan.orders)


def phases(plan):
    if not plan.job:
        return ["none"]
    if kind_for(plan).parts == 1:
        return ["before", (0,), (1,), "ended"]
    return ["before", "ended"] + [(a, b, c) for a in (0, 1) for b in (0, 1) for c in (0, 1)]


def beginning(plan, world):
    return (0, 0, "before" if plan.job else "none", world)


def beginnings(plan):
    return [beginning(plan, world) for world in kind_for(plan).firsts(plan.sets[0])]


def all_standings(plan):
    many = len(plan.sets)
    return [(low, high, phase, world) for low in range(many) for high in range(low, many)
            for phase in phases(plan) for world in kind_for(plan).worlds()]


def moves(plan, lag, standing):
    """A dict from the moves to the standings behind them, "off" where the job gives up, and their faults."""
    low, high, phase, world = standing
    kind = kind_for(plan)
    ended = phase == "ended" or not plan.job
    told = {}
    if high + 1 < len(plan.sets) and high + 1 <= low + lag and (high != plan.at or ended):
        told[("tell",)] = ((low, high + 1, phase, world), "")
    if low != high:
        told[("leave",)] = ((low + 1, high, phase, world), "")
    if (low, high, phase) == (plan.at, plan.at, "before"):
        told[("begin",)] = ((low, high, tuple(0 for _ in range(kind.parts)), world), "")
    if type(phase) is tuple:
        for part in range(kind.parts):
            behind = kind.worked(plan.job, world, part)
            done = tuple(1 if at == part else mark for at, mark in enumerate(phase))
            told[("work", part)] = ("off" if behind is None else (low, high, done, behind), "")
        if sum(phase) == kind.parts:
            told[("end",)] = ((low, high, "ended", world), "")
    seen = []
    for version in range(low, high + 1):
        if plan.sets[version] not in seen:
            seen.append(plan.sets[version])
            for deed, behind, fault in kind.deeds(world, plan.sets[version]):
                told[("deed", version, deed)] = ((low, high, phase, behind), fault)
    return told


def is_left_over(plan, standing):
    low, _, phase, world = standing
    return (low == len(plan.sets) - 1 and phase in ("none", "ended")
            and world not in kind_for(plan).firsts(plan.sets[-1]))


def fewest(plan, lag, started=None):
    """The least number of moves by which a plan goes wrong, None if it is safe; and all standings met.

    Runs begin at the first standings, or in all worlds that are told as those in which they started.
    """
    number = 0
    level = set(beginnings(plan) if started is None else [beginning(plan, world) for world in started])
    met = set(level)
    while level:
        if any(is_left_over(plan, standing) for standing in level):
            return number, met
        number += 1
        told = [one for standing in level for one in moves(plan, lag, standing).values()]
        if any(fault for _, fault in told):
            return number, met
        level = {behind for behind, _ in told if behind != "off"} - met
        met |= level
    return None, met


def worlds_at(plan, lag, version):
    """The set of the worlds in which a plan may be given up at a version."""
    queue = beginnings(plan)
    met = set(queue)
    for standing in queue:
        for behind, _ in moves(plan, lag, standing).values():
            if behind != "off" and behind not in met:
                met.add(behind)
                queue.append(behind)
    return {world for low, high, phase, world in met
            if low == high == version and phase in ("none", "before", "ended")}

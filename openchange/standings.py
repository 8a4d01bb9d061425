"""Standings of one row's world among the versions, and the moves between them."""

from openchange.errors import BadMove, TooLarge
from openchange.forms import is_flat, is_integer
from openchange.kinds import kind_of
from openchange.plans import check_lag

MOST_STANDINGS = 100000


class Course:
    """A plan and a lag, with the standings and moves that they have."""

    def __init__(self, plan, lag):
        check_lag(lag)
        self.plan = plan
        self.lag = lag
        self.kind = kind_of(plan.kind)
        self.phases = _phases(plan.job, self.kind.parts)
        self.known_worlds = {world: True for world in self.kind.worlds()}
        self.known_deeds = {}
        self.first_worlds = self.kind.firsts(plan.sets[0])
        self.last_worlds = self.kind.firsts(plan.sets[-1])

    def size(self):
        """The number by which a question about the plan is measured."""
        return len(self.known_worlds) * len(self.phases) * len(self.plan.sets) * (self.lag + 1)

    def is_standing(self, value):
        """Whether a value is a standing, be there a run that comes to it or not."""
        if not isinstance(value, tuple) or len(value) != 4:
            return False
        low, high, phase, world = value
        if not is_integer(low) or not is_integer(high) or not 0 <= low <= high <= self.plan.last():
            return False
        return is_flat(phase) and phase in self.phases and is_flat(world) and world in self.known_worlds

    def is_first_world(self, value):
        """Whether a value is a world in which a run can begin."""
        return is_flat(value) and value in self.first_worlds

    def beginning(self, world):
        """The standing at which a run begins in a world."""
        return (0, 0, self.phases[0], world)

    def beginnings(self):
        """All standings at which runs begin."""
        return [self.beginning(world) for world in self.first_worlds]

    def is_left_over(self, standing):
        """Whether all is through at a standing, and something is left over."""
        low, high, phase, world = standing
        return low == self.plan.last() and phase in ("none", "ended") and world not in self.last_worlds

    def moves_from(self, standing):
        """The triples of a move, the standing behind it (None if the job gives up), and a fault."""
        return self._version_moves(standing) + self._job_moves(standing) + self._deed_moves(standing)

    def _version_moves(self, standing):
        low, high, phase, world = standing
        told = []
        waits = high == self.plan.at and phase not in ("none", "ended")
        if high < self.plan.last() and high < low + self.lag and not waits:
            told.append((("tell",), (low, high + 1, phase, world), ""))
        if low < high:
            told.append((("leave",), (low + 1, high, phase, world), ""))
        return told

    def _job_moves(self, standing):
        low, high, phase, world = standing
        if phase == "before" and low == high == self.plan.at:
            return [(("begin",), (low, high, (0,) * self.kind.parts, world), "")]
        if not isinstance(phase, tuple):
            return []
        told = [(("work", part), self._standing_worked(standing, part), "") for part in range(self.kind.parts)]
        if 0 not in phase:
            told.append((("end",), (low, high, "ended", world), ""))
        return told

    def _standing_worked(self, standing, part):
        low, high, phase, world = standing
        behind = self.kind.worked(self.plan.job, world, part)
        if behind is None:
            return None
        return (low, high, phase[:part] + (1,) + phase[part + 1:], behind)

    def _deed_moves(self, standing):
        low, high, phase, world = standing
        sets = self.plan.sets
        return [(("deed", version, deed), (low, high, phase, behind), fault)
                for version in range(low, high + 1) if sets[version] not in sets[low:version]
                for deed, behind, fault in self._deeds(world, sets[version])]

    def _deeds(self, world, duties):
        # The same deeds are asked for at very many standings.
        key = (world, duties)
        if key not in self.known_deeds:
            self.known_deeds[key] = self.kind.deeds(world, duties)
        return self.known_deeds[key]

    def followed(self, standing, moves):
        """The pair of the standing behind moves, None if the job gave up, and the last one's fault."""
        fault = ""
        for number, move in enumerate(moves):
            if standing is None or fault:
                raise BadMove(number)
            standing, fault = self._made(standing, move, number)
        return (standing, fault)

    def _made(self, standing, move, number):
        if is_flat(move):
            for told, behind, fault in self.moves_from(standing):
                if told == move:
                    return (behind, fault)
        raise BadMove(number)


def _phases(job, parts):
    """The phases of a job, the one at the beginning first."""
    if job == "":
        return ("none",)
    marks = [()]
    for _ in range(parts):
        marks = [(*ahead, mark) for ahead in marks for mark in (0, 1)]
    return ("before", *marks, "ended")


def check_size(course):
    """Raises TooLarge if there are too many standings to go through."""
    number = course.size()
    if number > MOST_STANDINGS:
        raise TooLarge(number)


def is_closed(course, table, beginnings):
    """Whether a table shows that nothing goes wrong from some beginnings on."""
    if not all([course.is_standing(standing) for standing in table]):
        return False
    lot = {standing: True for standing in table}
    if not all([standing in lot for standing in beginnings]):
        return False
    for standing in lot:
        if course.is_left_over(standing) or not _leads_into(course.moves_from(standing), lot):
            return False
    return True


def _leads_into(moves, lot):
    """Whether none of these moves has a fault or leads out of a lot."""
    return all([fault == "" and (behind is None or behind in lot) for _, behind, fault in moves])


def goes_wrong(course, standing, moves):
    """Whether moves can be made from a standing, and something goes wrong by them."""
    try:
        behind, fault = course.followed(standing, moves)
    except BadMove:
        return False
    return fault != "" or (behind is not None and course.is_left_over(behind))


def explored(course, beginnings):
    """Goes by all moves from some beginnings on, by fewest moves first, until something is wrong.

    Returns the list of the standings that were met, and None if nothing is wrong,
    otherwise the pair of a beginning and of the fewest moves by which it goes wrong.
    """
    came = {standing: None for standing in beginnings}
    for standing in came:
        if course.is_left_over(standing):
            return list(came), (standing, [])
    level = list(came)
    while level:
        further = []
        for standing in level:
            for move, behind, fault in course.moves_from(standing):
                if not fault and (behind is None or behind in came):
                    continue
                if fault or course.is_left_over(behind):
                    beginning, moves = way_to(came, standing)
                    return list(came), (beginning, [*moves, move])
                came[behind] = (standing, move)
                further.append(behind)
        level = further
    return list(came), None


def reached(course):
    """All standings to which moves lead from the first ones, whatever faults they have.

    Returns a dict from each to None, or to the pair of the standing ahead of it
    and the move between. No such move has a fault: a deed with a fault leaves its
    world as it is, and so leads to nothing new.
    """
    came = {standing: None for standing in course.beginnings()}
    level = list(came)
    while level:
        further = []
        for standing in level:
            for move, behind, _ in course.moves_from(standing):
                if behind is not None and behind not in came:
                    came[behind] = (standing, move)
                    further.append(behind)
        level = further
    return came


def way_to(came, standing):
    """The beginning from which a standing was met, and the moves that lead to it."""
    moves = []
    while came[standing] is not None:
        standing, move = came[standing]
        moves.append(move)
    return standing, moves[::-1]

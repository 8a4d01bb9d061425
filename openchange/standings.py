"""Standings of one row's world among the versions, the moves between them, and how to go through them."""

from openchange.errors import BadMove
from openchange.forms import is_flat, is_integer
from openchange.plans import check_lag


class Standings:
    """The standings that versions, phases and worlds make, and the moves between them.

    The kind has worlds(), deeds(world, duties) and firsts(duties); the duties of each
    version stand in sets; the phase at the beginning is the first one. A class of such
    standings has these methods besides:

    - waits(version, phase): whether the version that follows is not told, as a job must end ahead of it;
    - is_through(phase): whether all jobs have ended, or there are none;
    - job_moves(standing): what moves_from tells, of the jobs' moves alone.
    """

    def __init__(self, kind, sets, phases, lag):
        check_lag(lag)
        self.kind = kind
        self.sets = sets
        self.phases = phases
        self.lag = lag
        self.last_version = len(sets) - 1
        self.known_worlds = {world: True for world in kind.worlds()}
        self.known_deeds = {}
        self.first_worlds = kind.firsts(sets[0])
        self.last_worlds = kind.firsts(sets[-1])

    def is_standing(self, value):
        """Whether a value is a standing, be there a run that comes to it or not."""
        if not isinstance(value, tuple) or len(value) != 4:
            return False
        low, high, phase, world = value
        if not is_integer(low) or not is_integer(high) or not 0 <= low <= high <= self.last_version:
            return False
        return is_flat(phase) and phase in self.phases and is_flat(world) and world in self.known_worlds

    def is_first_world(self, value):
        """Whether a value is a world in which a run can begin."""
        return is_flat(value) and value in self.first_worlds

    def beginning(self, world):
        """The standing at which a run begins in a world."""
        return (0, 0, self.phases[0], world)

    def beginnings(self):
        """All standings at which runs begin."""
        return [self.beginning(world) for world in self.first_worlds]

    def is_left_over(self, standing):
        """Whether all is through at a standing, and something is left over."""
        low, _, phase, world = standing
        return low == self.last_version and self.is_through(phase) and world not in self.last_worlds

    def moves_from(self, standing):
        """The triples of a move, the standing behind it (None if the job gives up), and a fault."""
        return self._version_moves(standing) + self.job_moves(standing) + self._deed_moves(standing)

    def _version_moves(self, standing):
        low, high, phase, world = standing
        told = []
        if high < self.last_version and high < low + self.lag and not self.waits(high, phase):
            told.append((("tell",), (low, high + 1, phase, world), ""))
        if low < high:
            told.append((("leave",), (low + 1, high, phase, world), ""))
        return told

    def _deed_moves(self, standing):
        low, high, phase, world = standing
        sets = self.sets
        return [(("deed", version, deed), (low, high, phase, behind), fault)
                for version in range(low, high + 1) if sets[version] not in sets[low:version]
                for deed, behind, fault in self._deeds(world, sets[version])]

    def _deeds(self, world, duties):
        # The same deeds are asked for at very many standings.
        key = (world, duties)
        if key not in self.known_deeds:
            self.known_deeds[key] = self.kind.deeds(world, duties)
        return self.known_deeds[key]

    def followed(self, standing, moves):
        """The pair of the standing behind moves, None if the job gave up, and the last one's fault."""
        fault = ""
        for number, move in enumerate(moves):
            if standing is None or fault:
                raise BadMove(number)
            standing, fault = self._made(standing, move, number)
        return (standing, fault)

    def _made(self, standing, move, number):
        if is_flat(move):
            for told, behind, fault in self.moves_from(standing):
                if told == move:
                    return (behind, fault)
        raise BadMove(number)


def is_closed(course, table, beginnings):
    """Whether a table shows that nothing goes wrong from some beginnings on."""
    if not all([course.is_standing(standing) for standing in table]):
        return False
    lot = {standing: True for standing in table}
    if not all([standing in lot for standing in beginnings]):
        return False
    for standing in lot:
        if course.is_left_over(standing) or not _leads_into(course.moves_from(standing), lot):
            return False
    return True


def _leads_into(moves, lot):
    """Whether none of these moves has a fault or leads out of a lot."""
    return all([fault == "" and (behind is None or behind in lot) for _, behind, fault in moves])


def goes_wrong(course, standing, moves):
    """Whether moves can be made from a standing, and something goes wrong by them."""
    try:
        behind, fault = course.followed(standing, moves)
    except BadMove:
        return False
    return fault != "" or (behind is not None and course.is_left_over(behind))


def explored(course, beginnings):
    """Goes by all moves from some beginnings on, by fewest moves first, until something is wrong.

    Returns the list of the standings that were met, and None if nothing is wrong,
    otherwise the pair of a beginning and of the fewest moves by which it goes wrong.
    """
    came = {standing: None for standing in beginnings}
    for standing in came:
        if course.is_left_over(standing):
            return list(came), (standing, [])
    level = list(came)
    while level:
        further = []
        for standing in level:
            for move, behind, fault in course.moves_from(standing):
                if not fault and (behind is None or behind in came):
                    continue
                if fault or course.is_left_over(behind):
                    beginning, moves = way_to(came, standing)
                    return list(came), (beginning, [*moves, move])
                came[behind] = (standing, move)
                further.append(behind)
        level = further
    return list(came), None


def reached(course):
    """All standings to which moves lead from the first ones, whatever faults they have.

    Returns a dict from each to None, or to the pair of the standing ahead of it
    and the move between. No such move has a fault: a deed with a fault leaves its
    world as it is, and so leads to nothing new.
    """
    came = {standing: None for standing in course.beginnings()}
    level = list(came)
    while level:
        further = []
        for standing in level:
            for move, behind, _ in course.moves_from(standing):
                if behind is not None and behind not in came:
                    came[behind] = (standing, move)
                    further.append(behind)
        level = further
    return came


def way_to(came, standing):
    """The beginning from which a standing was met, and the moves that lead to it."""
    moves = []
    while came[standing] is not None:
        standing, move = came[standing]
        moves.append(move)
    return standing, moves[::-1]

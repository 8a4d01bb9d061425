"""The standings and moves of a plan with one element."""

from openchange.errors import TooLarge
from openchange.standings import Standings

MOST_STANDINGS = 100000


class Course(Standings):
    """A plan and a lag, with the standings and moves that they have."""

    def __init__(self, plan, lag):
        kind = plan.kept_up()
        super().__init__(kind, plan.sets, _phases(plan.job, kind.parts), lag)
        self.job = plan.job
        self.at = plan.at

    def size(self):
        """The number by which a question about the plan is measured."""
        return len(self.known_worlds) * len(self.phases) * len(self.sets) * (self.lag + 1)

    def is_through(self, phase):
        """Whether the job has ended, or there is none."""
        return phase in ("none", "ended")

    def waits(self, version, phase):
        """Whether the version that follows is not told, as the job must end ahead of it."""
        return version == self.at and not self.is_through(phase)

    def job_moves(self, standing):
        """The job's moves from a standing."""
        low, high, phase, world = standing
        if phase == "before" and low == high == self.at:
            return [(("begin",), (low, high, (0,) * self.kind.parts, world), "")]
        if not isinstance(phase, tuple):
            return []
        told = [(("work", part), self._standing_worked(standing, part), "") for part in range(self.kind.parts)]
        if 0 not in phase:
            told.append((("end",), (low, high, "ended", world), ""))
        return told

    def _standing_worked(self, standing, part):
        low, high, phase, world = standing
        behind = self.kind.worked(self.job, world, part)
        if behind is None:
            return None
        return (low, high, phase[:part] + (1,) + phase[part + 1:], behind)


def _phases(job, parts):
    """The phases of a job, the one at the beginning first."""
    if job == "":
        return ("none",)
    marks = [()]
    for _ in range(parts):
        marks = [(*ahead, mark) for ahead in marks for mark in (0, 1)]
    return ("before", *marks, "ended")


def check_size(course):
    """Raises TooLarge if there are too many standings to go through."""
    number = course.size()
    if number > MOST_STANDINGS:
        raise TooLarge(number)

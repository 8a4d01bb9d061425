"""The worlds, standings and moves of an index on a column that changes, too."""

from openchange.indexes import entry_behind, entry_fault, index_worked
from openchange.kinds import closed_lot
from openchange.standings import Standings

ROWS = ("bare", "none", "other", "this")

# The phases of a job.
BEFORE = 0
UNDER_WAY = 1
DONE_ONCE = 2
ENDED = 3


class LeanKind:
    """A column or a whole, and an index on it; duties are pairs, for the column and for the index."""

    def __init__(self, word):
        self.word = word

    def worlds(self):
        """The list of all worlds: pairs of a row and of 1 or 0 for the entry."""
        return [(row, entry) for row in ROWS for entry in (0, 1)]

    def deeds(self, world, duties):
        """The triples (deed, world behind it, fault) of what servers with these duties can do."""
        row, entry = world
        column, index = duties
        told = [(new, became(world, new, index), "") for new in self._rows_behind(row, column) if new != row]
        if "read" in column:
            told.append(("read column", world, "bare" if row == "bare" else ""))
        if "read" in index:
            told.append(("read index", world, entry_fault(row, entry)))
        return told

    def _rows_behind(self, row, column):
        """What servers with these duties for the column make of a row."""
        if "put" in column:
            return ("none", "other", "this")
        if row == "none" or self.word == "whole":
            return ("bare", "none")
        return ("none",)

    def firsts(self, duties):
        """A dict with the worlds in which a table with these duties can have been in use."""
        column, index = duties
        lot = [(row, entry) for row, entry in self.worlds()
               if (column or row in ("bare", "none")) and (index or entry == 0)]
        return closed_lot({world: self.deeds(world, duties) for world in lot})


def became(world, new, index):
    """The world behind a write by which the row becomes another one, with duties for the index."""
    row, entry = world
    return (new, entry_behind(row, new, entry, index))


class LeanCourse(Standings):
    """A leaning and a lag, with the standings and moves that they have."""

    def __init__(self, leaning, lag):
        column, index = leaning.column, leaning.index
        told = (("column", column.job, column.at), ("index", index.job, index.at + leaning.offset))
        # The words of the jobs that there are, and their versions: phases tell of them in this order.
        self.words = [word for word, job, _ in told if job]
        self.places = [at for _, job, at in told if job]
        self.column_job = column.job
        self.index_job = index.job
        sets = [leaning.sets_at(version) for version in range(leaning.last() + 1)]
        super().__init__(LeanKind(column.kind), sets, _phases(len(self.words)), lag)

    def is_through(self, phase):
        """Whether all jobs have ended, or there are none."""
        return all([mark == ENDED for mark in phase])

    def waits(self, version, phase):
        """Whether the version that follows is not told, as a job must end ahead of it."""
        return any([at == version and mark != ENDED for at, mark in zip(self.places, phase)])

    def job_moves(self, standing):
        """The jobs' moves from a standing."""
        return [move for number in range(len(self.words)) for move in self._moves_of_job(standing, number)]

    def _moves_of_job(self, standing, number):
        low, high, phase, world = standing
        word, mark = self.words[number], phase[number]
        if mark == BEFORE and low == high == self.places[number]:
            return [(("begin", word), (low, high, _with_mark(phase, number, UNDER_WAY), world), "")]
        if mark in (BEFORE, ENDED):
            return []
        done = _with_mark(phase, number, DONE_ONCE)
        told = [(("work", word, row), (low, high, done, behind), "") for row, behind in self._works(word, world)]
        if mark == DONE_ONCE:
            told.append((("end", word), (low, high, _with_mark(phase, number, ENDED), world), ""))
        return told

    def _works(self, word, world):
        """The pairs of what fill of the column makes of a bare row, otherwise an empty text, and the world behind."""
        if word == "index":
            return [("", index_worked(self.index_job, world))]
        row, _ = world
        # The job of the column does as a server of its version would.
        _, index = self.sets[self.places[0]]
        if self.column_job == "fill" and row == "bare":
            return [(new, became(world, new, index)) for new in ("other", "this")]
        if self.column_job == "strip" and row in ("other", "this"):
            return [("", became(world, "bare", index))]
        return [("", world)]


def _phases(many):
    """All phases of so many jobs, the one at the beginning first."""
    told = [()]
    for _ in range(many):
        told = [(*ahead, mark) for ahead in told for mark in (BEFORE, UNDER_WAY, DONE_ONCE, ENDED)]
    return tuple(told)


def _with_mark(phase, number, mark):
    """The phase in which one job has another mark."""
    return (*phase[:number], mark, *phase[number + 1:])

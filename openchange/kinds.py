"""The kinds of what is kept up besides the rows, and what servers and jobs do to it."""

from openchange.columns import column_deeds, column_worked, column_worlds, whole_deeds
from openchange.indexes import index_deeds, index_worked, index_worlds
from openchange.places import moved_deeds, moved_worked, moved_worlds
from openchange.references import reference_deeds, reference_worked, reference_worlds
from openchange.uniques import unique_deeds, unique_worked, unique_worlds

KINDS = ("column", "index", "moved", "reference", "unique", "whole")

DUTIES = {
    "column": ("put", "read"),
    "index": ("drop", "put", "read"),
    "moved": ("from new", "from old", "new", "old"),
    "reference": ("check", "guard", "read"),
    "unique": ("check", "drop", "put", "read"),
    "whole": ("put", "read"),
}

JOBS = {
    "column": ("fill", "strip"),
    "index": ("clean", "empty", "fill", "rebuild"),
    "moved": ("back", "copy"),
    "reference": ("check", "sweep"),
    "unique": ("empty", "fill"),
    "whole": ("fill", "strip"),
}


class Kind:
    """A kind of what is kept up besides the rows."""

    def __init__(self, word):
        self.word = word
        self.duties = DUTIES[word]
        self.jobs = JOBS[word]
        self.parts = 3 if word == "unique" else 1

    def worlds(self):
        """The list of all worlds."""
        if self.word == "index":
            return index_worlds()
        if self.word == "reference":
            return reference_worlds()
        if self.word == "moved":
            return moved_worlds()
        if self.word == "unique":
            return unique_worlds()
        return column_worlds()

    def deeds(self, world, duties):
        """The triples (deed, world behind it, fault) of what servers with these duties can do."""
        if self.word == "index":
            return index_deeds(world, duties)
        if self.word == "column":
            return column_deeds(world, duties)
        if self.word == "reference":
            return reference_deeds(world, duties)
        if self.word == "moved":
            return moved_deeds(world, duties)
        if self.word == "unique":
            return unique_deeds(world, duties)
        return whole_deeds(world, duties)

    def worked(self, job, world, part):
        """The world behind a job's work at a row, None if the job gives up."""
        if self.word == "index":
            return index_worked(job, world)
        if self.word == "reference":
            return reference_worked(job, world)
        if self.word == "moved":
            return moved_worked(job, world)
        if self.word == "unique":
            return unique_worked(job, world, part)
        return column_worked(job, world)

    def firsts(self, duties):
        """A dict with the worlds in which a table with these duties can have been in use."""
        lot = [world for world in self.worlds() if duties or _is_unkept(self.word, world)]
        return closed_lot({world: self.deeds(world, duties) for world in lot})


def _is_unkept(word, world):
    """Whether a world can be there if no server has ever kept the element up."""
    if word == "index":
        return world[1] == 0
    if word == "unique":
        return world[3] == 0
    return world != "full"


def closed_lot(deeds):
    """The greatest lot of worlds in which no deed has a fault or leads out of it.

    The dict tells the deeds of all worlds that may be in the lot.
    """
    lot = {world: True for world in deeds}
    shrinks = True
    while shrinks:
        kept = {world: True for world in lot if _stays(deeds[world], lot)}
        shrinks = len(kept) < len(lot)
        lot = kept
    return lot


def _stays(deeds, lot):
    """Whether none of these deeds has a fault or leads out of a lot."""
    return all([fault == "" and behind in lot for _, behind, fault in deeds])


def kind_of(word):
    """The kind that a word of KINDS means."""
    return Kind(word)

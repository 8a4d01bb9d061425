"""An index whose servers write the row and the entry one behind the other, and may fall between."""

from openchange.indexes import ROWS, entry_behind, entry_fault, index_worked, index_worlds
from openchange.kinds import JOBS, closed_lot


class PartedKind:
    """The kind of an index, with deeds in parts, for two orders.

    An order is "ahead" or "behind": the first one tells whether an entry is put ahead
    of the row's write or behind it, the other one whether it is dropped so.
    """

    def __init__(self, orders):
        self.putting, self.dropping = orders
        self.duties = ("drop", "look", "put", "read")
        self.jobs = JOBS["index"]
        self.parts = 1

    def worlds(self):
        """The list of all worlds."""
        return index_worlds()

    def deeds(self, world, duties):
        """The triples (deed, world behind it, fault) of what servers with these duties can do."""
        told = []
        for new in ROWS:
            if new != world[0]:
                told.extend(self._writes(world, new, duties))
        if "read" in duties or "look" in duties:
            told.append(("read", world, _fault(world, duties)))
        return told

    def _writes(self, world, new, duties):
        """The deed by which the row becomes another one, whole and fallen."""
        row, entry = world
        behind = entry_behind(row, new, entry, duties)
        whole = (new, (new, behind), "")
        if new == "this" and "put" in duties:
            order = self.putting
        elif row == "this" and "drop" in duties:
            order = self.dropping
        else:
            return [whole]
        return [whole, (f"{new} fallen", (row, behind) if order == "ahead" else (new, entry), "")]

    def worked(self, job, world, part):
        """The world behind a job's work, which is done at one row."""
        return index_worked(job, world)

    def firsts(self, duties):
        """A dict with the worlds in which a table with these duties can have been in use."""
        lot = [world for world in self.worlds() if duties or world[1] == 0]
        return closed_lot({world: self.deeds(world, duties) for world in lot})


def _fault(world, duties):
    """What is wrong about a reading by servers with these duties."""
    row, entry = world
    fault = entry_fault(row, entry)
    # Who looks at the row, too, takes no ghost for a row.
    return "" if fault == "ghost" and "read" not in duties else fault

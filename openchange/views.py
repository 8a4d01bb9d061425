"""The seam between tables and standings: what a run of a whole table is at one focus."""

from openchange.database import Database
from openchange.forms import MOST_NUMBER
from openchange.uniques import KEYS


def view(plan, lag, rows, element, events, focus):
    """The pair of the first world at a focus, and the tuple of the moves that a run of a table is there."""
    table = Database(plan, lag, rows, element)
    first = table.world(focus)
    watch = Watch(table, focus)
    for event in events:
        watch.follow(event)
    return (first, tuple(watch.moves))


class Watch:
    """A table and a focus, and the moves that were seen there."""

    def __init__(self, table, focus):
        self.table = table
        self.focus = focus
        self.moves = []
        self.is_over = False

    def follow(self, event):
        """Lets an event happen, and notes what it is at the focus."""
        low, gone, world = self.table.low(), self.table.gone, self.table.world(self.focus)
        answer = self.table.happen(event)
        if self.is_over:
            return
        word = event[0]
        if word == "do":
            self._note_deed(event, world, answer)
        elif word == "work":
            self._note_works(world, gone, self.table.gone)
        elif word == "end":
            self._note_works(world, gone, MOST_NUMBER)
        if word in ("tell", "begin", "end"):
            self.moves.append((word,))
        self.moves.extend([("leave",)] * (self.table.low() - low))

    def _note_deed(self, event, world, answer):
        _, name, deed = event
        sets = self.table.sets
        duties = sets[self.table.servers[name]]
        here = deed_at(self.table.kind.word, self.focus, world, deed, answer)
        # What is no deed of such servers in this world is not found among these.
        for told, _, fault in self.table.kind.deeds(world, duties):
            if told == here:
                low = self.table.low()
                self.moves.append(("deed", low + sets[low:].index(duties), here))
                self.is_over = fault != ""

    def _note_works(self, world, gone, upto):
        for part, key in enumerate(part_keys(self.table.kind.word, self.focus)):
            if gone < key <= upto:
                self.moves.append(("work", part))
                world = self.table.kind.worked(self.table.job, world, part)
        # Where a job gives up, it is at the last key that it comes to.
        self.is_over = world is None


def part_keys(kind, focus):
    """The keys of the rows at which a job is done for a focus."""
    if kind == "unique":
        return KEYS
    if kind == "index":
        return (focus[0],)
    if kind == "reference":
        return (focus[1],)
    return (focus,)


def deed_at(kind, focus, world, deed, answer):
    """The word of what a table's deed is at a focus, an empty text if it is nothing there.

    The world is the one ahead of the deed. The word may be none that a deed of such
    servers has in this world: a row with another value may have got a further one, and
    who reads may lack the duty to read.
    """
    if answer == "nothing":
        return ""
    if kind == "index":
        return _index_deed_at(focus, deed)
    if kind == "unique":
        return _unique_deed_at(focus, deed, answer)
    if kind == "reference":
        return _reference_deed_at(focus, deed, answer)
    if deed[1] != focus:
        return ""
    if deed[0] == "write":
        return "insert" if world in ("none", ()) else "change"
    return deed[0]


def _row_behind(deed, looked):
    """What a row becomes, for who looks at a value."""
    if deed[0] == "erase":
        return "none"
    return "this" if deed[2] == looked else "other"


def _index_deed_at(focus, deed):
    key, value = focus
    if deed[0] == "read":
        return "read" if deed[1] == value else ""
    return _row_behind(deed, value) if deed[1] == key else ""


def _unique_deed_at(focus, deed, answer):
    if deed[0] == "read":
        return "read" if deed[1] == focus else ""
    behind = _row_behind(deed, focus)
    # Who is refused another value does nothing to this one.
    if answer == "refused" and behind != "this":
        return ""
    return f"{behind} {deed[1]}"


def _reference_deed_at(focus, deed, answer):
    parent, child = focus
    word = deed[0]
    if word == "read":
        return "read" if deed[1] == child else ""
    if answer == "refused":
        return ""
    here = deed[1] == (parent if word in ("write parent", "erase parent") else child)
    if word == "write child":
        here = here and deed[2] == parent
    return word.replace("write", "insert") if here else ""

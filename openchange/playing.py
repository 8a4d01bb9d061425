"""The other way round: a whole table that does what moves at one focus tell."""

from openchange.database import NO_KEY, Database
from openchange.kinds import kind_of

# The focus is at this key (a reference's parent and child both have it) and this value.
# The other row has a greater key, so that a job goes over it where the focus has no row.
KEY = 1
VALUE = 10
OTHER_KEY = 2
OTHER_VALUE = 20


class Play:
    """A table with a server of each version in use, and the events by which it follows moves."""

    def __init__(self, plan, lag, rows, element):
        self.kind = plan.kind
        self.table = Database(plan, lag, rows, element)
        self.events = []
        self._start_newest()

    def follow(self, move):
        """Lets the table do what a move tells."""
        word = move[0]
        if word == "leave":
            self._let(("stop", _name(self.table.low())))
        elif word == "deed":
            self._let(("do", _name(move[1]), _table_deed(self.kind, move[2])))
        elif word == "work":
            self._work_at_focus()
        else:
            if word == "end":
                self._work_to_the_end()
            self._let((word,))
            if word == "tell":
                self._start_newest()

    def _let(self, event):
        self.table.happen(event)
        self.events.append(event)

    def _start_newest(self):
        self._let(("start", _name(self.table.high)))

    def _work_at_focus(self):
        # It comes to the focus again only if it has fallen.
        if self.table.gone != NO_KEY:
            self._let(("fall",))
        self._let(("work",))

    def _work_to_the_end(self):
        while self.table.can(("work",)):
            self._let(("work",))


def played(plan, lag, world, moves):
    """The rows, the element and the events of a table that does what moves from a first world tell at one focus.

    A view of this table at the focus is this world and these moves.
    """
    rows, element = _rows_and_element(plan, world)
    play = Play(plan, lag, rows, element)
    for move in moves:
        play.follow(move)
    return (rows, element, play.events)


def _name(version):
    """The name of the server that has a version."""
    return f"server {version}"


def _rows_and_element(plan, world):
    """Rows and an element with a world at the focus, and with another row in a first world."""
    firsts = kind_of(plan.kind).firsts(plan.sets[0])
    if plan.kind == "index":
        return _index_rows(world, firsts)
    if plan.kind == "reference":
        parents = [KEY] * world[0] + [OTHER_KEY]
        children = {key: key for key in [KEY] * world[1] + [OTHER_KEY]}
        return ((parents, children), None)
    if plan.kind == "moved":
        return _moved_rows(world)
    rows = [OTHER_KEY] if world == "none" else [KEY, OTHER_KEY]
    full = [KEY] if world == "full" else []
    return (rows, full if "bare" in firsts else [*full, OTHER_KEY])


def _index_rows(world, firsts):
    row, entry = world
    rows = {OTHER_KEY: OTHER_VALUE}
    if row != "none":
        rows[KEY] = VALUE if row == "this" else OTHER_VALUE
    entries = [(VALUE, KEY)] * entry
    if ("this", 1) in firsts:
        entries.extend([(OTHER_VALUE, key) for key in rows if rows[key] == OTHER_VALUE])
    return (rows, entries)


def _moved_rows(world):
    if world == ():
        return ([OTHER_KEY], ([OTHER_KEY], [OTHER_KEY]))
    old, new = world
    return ([KEY, OTHER_KEY], ([KEY] * old + [OTHER_KEY], [KEY] * new + [OTHER_KEY]))


def _table_deed(kind, deed):
    """What a deed at the focus is in the table."""
    if kind == "index":
        if deed == "none":
            return ("erase", KEY)
        if deed == "read":
            return ("read", VALUE)
        return ("write", KEY, VALUE if deed == "this" else OTHER_VALUE)
    if deed == "insert child":
        return ("write child", KEY, KEY)
    if deed == "insert parent":
        return ("write parent", KEY)
    return ("write" if deed in ("insert", "change") else deed, KEY)

"""A table in use, with servers of several versions and a job on the way."""

from openchange.changeerrors import BadRows, NotNow
from openchange.kinds import kind_of
from openchange.morestores import store_of
from openchange.plans import check_lag
from openchange.uniques import KEYS

NO_KEY = -1


class Database:
    """A table with one element, its servers, and the job of its plan."""

    def __init__(self, plan, lag, rows, element=None):
        check_lag(lag)
        store = store_of(plan.kind, rows, element, plan.sets[0])
        self.kind = kind_of(plan.kind)
        self.sets = plan.sets
        self.job = plan.job
        self.at = plan.at
        self.lag = lag
        self.store = store
        self.servers = {}
        self.high = 0
        self.phase = "before" if plan.job else "none"
        # The last key that the job has gone over, now and when it saved.
        self.gone = NO_KEY
        self.saved = NO_KEY
        firsts = self.kind.firsts(self.sets[0])
        for focus in store.marked():
            if store.world_at(focus) not in firsts:
                raise BadRows(focus)

    def low(self):
        """The least version of a server, the newest one without servers."""
        return min([self.servers[name] for name in self.servers], default=self.high)

    def focuses(self):
        """The ascending list of the places of which the table tells."""
        return self.store.focuses()

    def world(self, focus):
        """The world at a focus, whether there is anything or not."""
        return self.store.world_at(focus)

    def is_clean(self):
        """Whether the world at all focuses is a first world for the last set."""
        lasts = self.kind.firsts(self.sets[-1])
        return all([self.world(focus) in lasts for focus in self.store.marked()])

    def can(self, event):
        """Whether a value is an event that can happen now."""
        if not isinstance(event, tuple) or not event or not isinstance(event[0], str):
            return False
        if len(event) == 1:
            return self._can_tell() if event == ("tell",) else self._can_job(event[0])
        if not isinstance(event[1], str):
            return False
        if len(event) == 2:
            return self._can_serve(event[0], event[1])
        return len(event) == 3 and event[0] == "do" and event[1] in self.servers and self.store.is_deed(event[2])

    def _can_tell(self):
        waits = self.high == self.at and self.phase not in ("none", "ended")
        return self.high < len(self.sets) - 1 and self.high < self.low() + self.lag and not waits

    def _can_job(self, word):
        if word == "begin":
            return self.phase == "before" and self.low() == self.high == self.at
        if self.phase != "under way":
            return False
        if word == "work":
            return self.store.next_key(self.gone) is not None
        if word == "end":
            return self.store.next_key(self.gone) is None
        return word in ("save", "fall")

    def _can_serve(self, word, name):
        if word == "start":
            return name != "" and name not in self.servers
        if word == "move":
            return name in self.servers and self.servers[name] < self.high
        return word == "stop" and name in self.servers

    def happen(self, event):
        """Lets an event happen; returns the answer of a deed, otherwise None."""
        answer, _ = self._happened(event)
        return answer

    def answers(self, events):
        """Lets events happen; the list of the triples of a deed's number, its answer, and whether it is wrong."""
        told = []
        for number, event in enumerate(events):
            answer, wrong = self._happened(event)
            if event[0] == "do":
                told.append((number, answer, wrong))
        return told

    def _happened(self, event):
        """Lets an event happen; the pair of an answer, None for no deed, and whether it is wrong."""
        if not self.can(event):
            raise NotNow(event)
        if event[0] == "do":
            return self.store.done(event[2], self.sets[self.servers[event[1]]])
        if event == ("tell",):
            self.high += 1
        elif len(event) == 1:
            self._go_on(event[0])
        else:
            self._serve(event[0], event[1])
        return (None, False)

    def _serve(self, word, name):
        # Always a new dict, so that one which was read off tells for ever what was so then.
        servers = {other: self.servers[other] for other in self.servers if word != "stop" or other != name}
        if word == "start":
            servers[name] = self.high
        if word == "move":
            servers[name] += 1
        self.servers = servers

    def _go_on(self, word):
        if word == "begin":
            self.phase = "under way"
        elif word == "work":
            self.gone = self.store.next_key(self.gone)
            if not self.store.worked(self.job, self.gone):
                self.phase = "off"
        elif word == "save":
            self.saved = self.gone
        elif word == "fall":
            self.gone = self.saved
        else:
            self._end()

    def _end(self):
        # A unique value's rows are three, be they there or not, and to empty at a row
        # takes away all holders, also those that came behind the last key gone over.
        if self.kind.word == "unique" and self.gone < KEYS[-1]:
            self.store.worked(self.job, KEYS[-1])
        self.phase = "ended"

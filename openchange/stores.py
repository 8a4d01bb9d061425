"""Tables with an index, and tables with a column: their rows and what is kept beside them.

Each store, here and in morestores, has these methods:

- world_at(focus): the world at a focus, whether there is anything or not;
- focuses(): the ascending list of the focuses of which the table tells;
- marked(): those of them at which there is more than nothing; at all others the
  world is one that may be in any table that has been in use;
- is_deed(value): whether a value is a deed of such a table;
- done(deed, duties): does a deed; the pair of its answer and whether that is wrong;
- next_key(gone): the least key above a number that a job goes over, None without one;
- worked(job, key): does a job's work at a key, and tells False if the job gives up.
"""

from openchange.changeerrors import BadRows
from openchange.forms import is_number, is_number_dict, is_pair, is_row, is_row_of_keys, is_word_and_numbers

DONE = ("done", False)
NOTHING = ("nothing", False)

INDEX_DEEDS = (("write", 2), ("erase", 1), ("read", 1))
KEY_DEEDS = (("write", 1), ("erase", 1), ("read", 1))


def least_above(keys, gone):
    """The least of some keys that is above a number, None if none is."""
    return min([key for key in keys if key > gone], default=None)


def row_word(value, looked):
    """What a row with a value, or None without a row, is for who looks at another value."""
    if value is None:
        return "none"
    return "this" if value == looked else "other"


def keeps_up(duties):
    """Whether servers with these duties have the element, if nothing else is told."""
    return "put" in duties or "read" in duties


class IndexStore:
    """Rows with values, and entries of values and keys."""

    def __init__(self, rows, pairs):
        self.rows = {key: rows[key] for key in rows}
        self.entries = {}
        for value, key in pairs:
            self._put(value, key)

    def _put(self, value, key):
        if key not in self.entries:
            self.entries[key] = {}
        self.entries[key][value] = True

    def _drop(self, value, key):
        kept = self.entries.get(key, {})
        kept.pop(value, None)
        if not kept:
            self.entries.pop(key, None)

    def world_at(self, focus):
        key, value = focus
        return (row_word(self.rows.get(key), value), 1 if value in self.entries.get(key, {}) else 0)

    def focuses(self):
        keys = sorted(set([*self.rows, *self.entries]))
        values = sorted({value for _, value in self.marked()})
        return [(key, value) for key in keys for value in values]

    def marked(self):
        pairs = [(key, self.rows[key]) for key in self.rows]
        pairs.extend([(key, value) for key in self.entries for value in self.entries[key]])
        return sorted(set(pairs))

    def is_deed(self, value):
        return is_word_and_numbers(value, INDEX_DEEDS)

    def done(self, deed, duties):
        if deed[0] == "read":
            answer = self._read(deed[1], duties)
            return (answer, answer != self._read(deed[1], ()))
        key = deed[1]
        old = self.rows.get(key)
        new = deed[2] if deed[0] == "write" else None
        if new == old:
            return NOTHING
        if old is not None and "drop" in duties:
            self._drop(old, key)
        if new is None:
            del self.rows[key]
            return DONE
        self.rows[key] = new
        if "put" in duties:
            self._put(new, key)
        return DONE

    def _read(self, value, duties):
        if "read" in duties:
            return tuple(sorted([key for key in self.entries if value in self.entries[key]]))
        return tuple(sorted([key for key in self.rows if self.rows[key] == value]))

    def next_key(self, gone):
        return least_above([*self.rows, *self.entries], gone)

    def worked(self, job, key):
        value = self.rows.get(key)
        if job != "fill":
            # A job that clears away leaves at most the entry of the row.
            stays = job != "empty" and value in self.entries.get(key, {})
            self.entries.pop(key, None)
            if stays:
                self._put(value, key)
        if value is not None and job in ("fill", "rebuild"):
            self._put(value, key)
        return True


class KeyStore:
    """What tables have in common whose focuses are the keys of their rows."""

    def focuses(self):
        return sorted(list(self.rows))

    def marked(self):
        return self.focuses()

    def is_deed(self, value):
        return is_word_and_numbers(value, KEY_DEEDS)

    def next_key(self, gone):
        return least_above(self.rows, gone)


class ColumnStore(KeyStore):
    """Rows that have a column, or lack it."""

    def __init__(self, rows, full, unput):
        # What a full row is behind a write without the duty put.
        self.unput = unput
        self.rows = {key: "bare" for key in rows}
        for key in full:
            if key in self.rows:
                self.rows[key] = "full"

    def world_at(self, focus):
        return self.rows.get(focus, "none")

    def done(self, deed, duties):
        word, key = deed
        row = self.world_at(key)
        if word == "read":
            return self._read(row, duties)
        if word == "write":
            behind = self.unput if row == "full" else "bare"
            self.rows[key] = "full" if "put" in duties else behind
            return DONE
        if row == "none":
            return NOTHING
        del self.rows[key]
        return DONE

    def _read(self, row, duties):
        if row == "bare" and "read" not in duties:
            return ("full", False)
        return (row, row == "bare")

    def worked(self, job, key):
        self.rows[key] = "full" if job == "fill" else "bare"
        return True


def index_store(rows, told, duties):
    """The store of a table with an index; told are its entries, None if nothing is told."""
    if not is_number_dict(rows):
        raise BadRows(None)
    if told is None:
        kept = keeps_up(duties)
        return IndexStore(rows, [(rows[key], key) for key in rows if kept])
    if not is_row(told) or not all([is_pair(pair) and is_number(pair[0]) and is_number(pair[1]) for pair in told]):
        raise BadRows(None)
    return IndexStore(rows, told)


def column_store(rows, told, duties, unput):
    """The store of a table with a column; told are the full rows' keys, None if nothing is told."""
    if not is_row_of_keys(rows):
        raise BadRows(None)
    if told is None:
        return ColumnStore(rows, rows if keeps_up(duties) else [], unput)
    if not is_row_of_keys(told):
        raise BadRows(None)
    return ColumnStore(rows, told, unput)

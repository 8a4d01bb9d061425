"""Tables with a unique value, with a reference, or with an old and a new place; and the choice of a store."""

from openchange.changeerrors import BadRows
from openchange.forms import is_number_dict, is_pair, is_row_of_keys, is_word_and_numbers
from openchange.stores import (DONE, INDEX_DEEDS, NOTHING, KeyStore, column_store, index_store, keeps_up, least_above,
                               row_word)
from openchange.uniques import KEYS

REFUSED = ("refused", False)

REFERENCE_DEEDS = (("write parent", 1), ("erase parent", 1), ("write child", 2), ("erase child", 1), ("read", 1))


class UniqueStore:
    """Rows of three keys, and the holders of values."""

    def __init__(self, rows, holders):
        self.rows = {key: rows[key] for key in rows}
        self.holders = {value: holders[value] for value in holders}

    def world_at(self, focus):
        rows = [row_word(self.rows.get(key), focus) for key in KEYS]
        return (*rows, self.holders.get(focus, 0))

    def focuses(self):
        return sorted(set([*self._row_values(), *self.holders]))

    def _row_values(self):
        return [self.rows[key] for key in self.rows]

    def marked(self):
        return self.focuses()

    def is_deed(self, value):
        return is_word_and_numbers(value, INDEX_DEEDS) and (value[0] == "read" or value[1] in KEYS)

    def done(self, deed, duties):
        if deed[0] == "read":
            answer = self._read(deed[1], duties)
            return (answer, answer != self._read(deed[1], ()))
        key = deed[1]
        old = self.rows.get(key)
        new = deed[2] if deed[0] == "write" else None
        if new == old:
            return NOTHING
        if "check" in duties and self.holders.get(new, key) != key:
            return ("refused", new not in self._row_values())
        if "drop" in duties and self.holders.get(old) == key:
            del self.holders[old]
        if new is None:
            del self.rows[key]
            return DONE
        self.rows[key] = new
        if "put" in duties:
            self.holders[new] = key
        return DONE

    def _read(self, value, duties):
        if "read" in duties:
            return (self.holders[value],) if value in self.holders else ()
        return tuple([key for key in KEYS if self.rows.get(key) == value])

    def next_key(self, gone):
        return least_above([*self.rows, *[self.holders[value] for value in self.holders]], gone)

    def worked(self, job, key):
        if job == "empty":
            self.holders = {}
            return True
        value = self.rows.get(key)
        if value is None:
            return True
        if self.holders.get(value, key) != key:
            return False
        self.holders[value] = key
        return True


class ReferenceStore:
    """Rows of parents, and rows of children that refer to parents."""

    def __init__(self, parents, children):
        self.parents = {key: True for key in parents}
        self.children = {key: children[key] for key in children}

    def world_at(self, focus):
        parent, child = focus
        return (1 if parent in self.parents else 0, 1 if self.children.get(child) == parent else 0)

    def focuses(self):
        parents = sorted(set([*self.parents, *self._told_parents()]))
        return [(parent, child) for parent in parents for child in sorted(list(self.children))]

    def _told_parents(self):
        return [self.children[key] for key in self.children]

    def marked(self):
        return sorted([(self.children[key], key) for key in self.children])

    def is_deed(self, value):
        return is_word_and_numbers(value, REFERENCE_DEEDS)

    def done(self, deed, duties):
        word, key = deed[0], deed[1]
        if word == "write parent":
            return self._write_parent(key)
        if word == "erase parent":
            return self._erase_parent(key, duties)
        if word == "write child":
            return self._write_child(key, deed[2], duties)
        if word == "erase child":
            return self._erase_child(key)
        return self._read(key, duties)

    def _write_parent(self, key):
        if key in self.parents:
            return NOTHING
        self.parents[key] = True
        return DONE

    def _erase_parent(self, key, duties):
        if "guard" in duties and key in self._told_parents():
            return REFUSED
        if key not in self.parents:
            return NOTHING
        del self.parents[key]
        return DONE

    def _write_child(self, key, parent, duties):
        if key in self.children:
            return NOTHING
        if "check" in duties and parent not in self.parents:
            return REFUSED
        self.children[key] = parent
        return DONE

    def _erase_child(self, key):
        if key not in self.children:
            return NOTHING
        del self.children[key]
        return DONE

    def _read(self, key, duties):
        if key not in self.children:
            return ("none", False)
        if "read" in duties and self._is_orphan(key):
            return ("orphan", True)
        return ("there", False)

    def _is_orphan(self, key):
        return self.children[key] not in self.parents

    def next_key(self, gone):
        return least_above(self.children, gone)

    def worked(self, job, key):
        if not self._is_orphan(key):
            return True
        if job == "check":
            return False
        del self.children[key]
        return True


class MovedStore(KeyStore):
    """Rows with the numbers of their last writes, and what the old and the new place have of them."""

    def __init__(self, rows, old, new):
        self.writes = 0
        self.rows = {key: 0 for key in rows}
        self.old = {key: 0 for key in old if key in self.rows}
        self.new = {key: 0 for key in new if key in self.rows}

    def world_at(self, focus):
        if focus not in self.rows:
            return ()
        number = self.rows[focus]
        return (1 if self.old.get(focus) == number else 0, 1 if self.new.get(focus) == number else 0)

    def done(self, deed, duties):
        word, key = deed
        if word == "read":
            return self._read(key, duties)
        if word == "write":
            self.writes += 1
            self.rows[key] = self.writes
            if "old" in duties:
                self.old[key] = self.writes
            if "new" in duties:
                self.new[key] = self.writes
            return DONE
        if key not in self.rows:
            return NOTHING
        del self.rows[key]
        self.old.pop(key, None)
        self.new.pop(key, None)
        return DONE

    def _read(self, key, duties):
        if key not in self.rows:
            return ((), False)
        number = self.rows[key]
        told = [places.get(key) for duty, places in (("from old", self.old), ("from new", self.new))
                if duty in duties]
        if not told:
            return ((number,), False)
        return (tuple(told), any([one != number for one in told]))

    def worked(self, job, key):
        source, target = (self.old, self.new) if job == "copy" else (self.new, self.old)
        target.pop(key, None)
        if key in source:
            target[key] = source[key]
        return True


def _unique_store(rows, told, duties):
    if not is_number_dict(rows) or not all([key in KEYS for key in rows]):
        raise BadRows(None)
    if told is None:
        least = {}
        for key in sorted(list(rows)):
            if keeps_up(duties) and rows[key] not in least:
                least[rows[key]] = key
        return UniqueStore(rows, least)
    if not is_number_dict(told) or not all([told[value] in KEYS for value in told]):
        raise BadRows(None)
    return UniqueStore(rows, told)


def _reference_store(rows, told):
    if not is_pair(rows) or not is_row_of_keys(rows[0]) or not is_number_dict(rows[1]) or told is not None:
        raise BadRows(None)
    return ReferenceStore(rows[0], rows[1])


def _moved_store(rows, told, duties):
    if not is_row_of_keys(rows):
        raise BadRows(None)
    if told is None:
        return MovedStore(rows, rows if "old" in duties or "from old" in duties else [],
                          rows if "new" in duties or "from new" in duties else [])
    if not is_pair(told) or not is_row_of_keys(told[0]) or not is_row_of_keys(told[1]):
        raise BadRows(None)
    return MovedStore(rows, told[0], told[1])


def store_of(kind, rows, told, duties):
    """The store of a table of a kind, for servers that had these duties up to now.

    What is kept beside the rows is told, or None; BadRows if this or the rows are not as described.
    """
    if kind == "index":
        return index_store(rows, told, duties)
    if kind == "unique":
        return _unique_store(rows, told, duties)
    if kind == "reference":
        return _reference_store(rows, told)
    if kind == "moved":
        return _moved_store(rows, told, duties)
    return column_store(rows, told, duties, "full" if kind == "column" else "bare")

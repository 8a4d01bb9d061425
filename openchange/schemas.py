"""Schemas, and the changes from one to another."""

from openchange.changeerrors import BadChange

MARKS = ("column", "index", "reference", "unique")

# These need their column: they come behind it, and go ahead of it.
ON_COLUMNS = ("index", "reference", "unique")


class Schema:
    """Tables, with marks for each column."""

    def __init__(self, tables):
        self.tables = {table: {column: dict(tables[table][column]) for column in tables[table]} for table in tables}

    def __eq__(self, other):
        return isinstance(other, Schema) and self.tables == other.tables

    def marked(self):
        """The ascending list of the triples (kind, table, column) of all marks."""
        return sorted([(kind, table, column) for kind in MARKS for table in self.tables
                       for column in self.tables[table] if kind in self.tables[table][column]])


def changes(old, new):
    """The ascending tuple of the changes from one schema to another."""
    shared = _shared_columns(old, new)
    for table, column in shared:
        if ("column" in old.tables[table][column]) != ("column" in new.tables[table][column]):
            raise BadChange(("column", table, column))
    told = []
    for word, one, other in (("add", new, old), ("remove", old, new)):
        told.extend([(word, *element) for element in one.marked()
                     if element[1] in other.tables and not _has_the_same(other, one, element)])
    told.extend([("move", "moved", table, column) for table, column in shared
                 if old.tables[table][column]["place"] != new.tables[table][column]["place"]])
    return tuple(sorted(told))


def _shared_columns(old, new):
    """The ascending list of the pairs of a table and a column that are in both schemas."""
    return sorted([(table, column) for table in old.tables if table in new.tables
                   for column in old.tables[table] if column in new.tables[table]])


def _has_the_same(schema, other, element):
    """Whether a schema has the same mark as another one, a reference to the same table."""
    kind, table, column = element
    return schema.tables[table].get(column, {}).get(kind) == other.tables[table][column][kind]


def leans_on(change, other):
    """Whether a change can begin only when another one is through."""
    if change[2:] != other[2:]:
        return False
    word, kind = change[:2]
    if word == "add" and kind in ON_COLUMNS:
        return other[:2] in (("add", "column"), ("remove", kind))
    return change[:2] == ("remove", "column") and other[0] == "remove" and other[1] in ON_COLUMNS

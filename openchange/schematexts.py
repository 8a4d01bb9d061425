"""Texts that tell schemas."""

from openchange.changeerrors import BadText
from openchange.schemas import Schema

MOST_TABLES = 6
MOST_COLUMNS = 8
MOST_LETTERS = 8
LETTERS = "abcdefghijklmnopqrstuvwxyz"

# Where a column is kept if nothing else is told.
MAIN = "main"


class Line:
    """The words of a line, taken one behind the other."""

    def __init__(self, number, text):
        self.number = number
        self.words = _words_of(text)
        self.taken = 0

    def is_empty(self):
        """Whether there are no words at all."""
        return not self.words

    def has_more(self):
        """Whether there are words that are not taken."""
        return self.taken < len(self.words)

    def one_of(self, choices):
        """Takes a word that is one of some."""
        word, column = self._take()
        if word not in choices:
            raise BadText(self.number, column)
        return word

    def new_name(self, told):
        """Takes a name that is none of those that were told."""
        word, column = self._take()
        if not _is_name(word) or word in told:
            raise BadText(self.number, column)
        return word

    def end(self):
        """Refuses a word that is left."""
        if self.has_more():
            self.one_of(())

    def _take(self):
        """Takes a word; the pair of it and the column where it begins."""
        if not self.has_more():
            word, column = self.words[-1]
            raise BadText(self.number, column + len(word))
        self.taken += 1
        return self.words[self.taken - 1]


class Reader:
    """The tables that the lines of a text have told."""

    def __init__(self):
        self.tables = {}
        # Those of the table that was told last.
        self.columns = {}

    def read(self, line):
        """Reads a line that has words."""
        word = line.one_of(self._first_words())
        if word == "table":
            name = line.new_name(self.tables)
            self.columns = {}
            self.tables[name] = self.columns
        elif word in ("column", "required"):
            self._read_column(line, word)
        elif word == "refers":
            column = self._unmarked(line, "reference")
            line.one_of(("to",))
            self.columns[column]["reference"] = line.one_of(self.tables)
        else:
            column = self._unmarked(line, word)
            self.columns[column][word] = True
        line.end()

    def _first_words(self):
        """The words with which a line can begin."""
        words = ["index", "unique", "refers"] if self.tables else []
        if self.tables and len(self.columns) < MOST_COLUMNS:
            words.extend(["column", "required"])
        if len(self.tables) < MOST_TABLES:
            words.append("table")
        return words

    def _read_column(self, line, word):
        name = line.new_name(self.columns)
        marks = {"place": MAIN}
        if line.has_more():
            line.one_of(("in",))
            marks["place"] = line.new_name(())
        if word == "required":
            marks["column"] = True
        self.columns[name] = marks

    def _unmarked(self, line, mark):
        """Takes the name of a column that has no such mark yet."""
        return line.one_of([column for column in self.columns if mark not in self.columns[column]])


def read_schema(text):
    """The schema that a text tells."""
    if not isinstance(text, str):
        raise BadText(0, 0)
    reader = Reader()
    for number, row in enumerate(text.split("\n"), start=1):
        line = Line(number, row)
        if not line.is_empty():
            reader.read(line)
    return Schema(reader.tables)


def _words_of(text):
    """The pairs of a word, up to a remark, and the column where it begins."""
    told = []
    column = 1
    for part in text.partition("#")[0].split(" "):
        if part:
            told.append((part, column))
        column += len(part) + 1
    return told


def _is_name(word):
    """Whether a word has as many small letters as a name may have, and nothing else."""
    return len(word) <= MOST_LETTERS and all([letter in LETTERS for letter in word])


def write_schema(schema):
    """The text that tells a schema."""
    lines = []
    for table in schema.tables:
        lines.append(f"table {table}")
        for column in schema.tables[table]:
            lines.extend(_column_lines(column, schema.tables[table][column]))
    return "\n".join(lines)


def _column_lines(column, marks):
    """The lines that tell a column with its marks."""
    word = "required" if "column" in marks else "column"
    place = marks["place"]
    lines = [f"{word} {column}" if place == MAIN else f"{word} {column} in {place}"]
    lines.extend([f"{mark} {column}" for mark in ("index", "unique") if mark in marks])
    if "reference" in marks:
        other = marks["reference"]
        lines.append(f"refers {column} to {other}")
    return lines

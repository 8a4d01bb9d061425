"""[34]: texts that tell schemas."""

import re
import unittest
from random import Random

from openchange.changeerrors import BadText
from openchange.schemas import Schema
from openchange.schematexts import read_schema, write_schema

BLOG = """# a blog
table people
  column name   # what people are called
  required  mail in contacts

  index mail
unique name#and this is a remark, too
 # nothing here
table posts
column author
column text in blobs
refers author to people
index author
unique author
column answers
refers answers to posts"""

BLOG_TABLES = {
    "people": {"name": {"place": "main", "unique": True},
               "mail": {"place": "contacts", "column": True, "index": True}},
    "posts": {"author": {"place": "main", "reference": "people", "index": True, "unique": True},
              "text": {"place": "blobs"}, "answers": {"place": "main", "reference": "posts"}}}

NAME = "[a-z]{1,8}"


def plain_read(text):
    """The tables of a text, or the pair of the line and the column where it is wrong; read once more, another way."""
    tables, last = {}, None
    for number, line in enumerate(text.split("\n"), start=1):
        found = [(match.group(), match.start() + 1) for match in re.finditer("[^ ]+",
                                                                             re.sub("#.*", "", line, flags=re.S))]
        if not found:
            continue
        words = [word for word, _ in found]
        table = tables.get(last, {})
        good = {
            "table": [lambda word: re.fullmatch(NAME, word) and word not in tables],
            "index": [lambda word: word in table and "index" not in table[word]],
            "unique": [lambda word: word in table and "unique" not in table[word]],
            "refers": [lambda word: word in table and "reference" not in table[word], lambda word: word == "to",
                       lambda word: word in tables]}
        for first in ("column", "required"):
            good[first] = [lambda word: re.fullmatch(NAME, word) and word not in table]
            if len(words) > 2:
                good[first] += [lambda word: word == "in", lambda word: re.fullmatch(NAME, word)]
        first = words[0]
        if first not in good or (first != "table" and last is None) or (first == "table" and len(tables) == 6) or (
                first in ("column", "required") and len(table) == 8):
            return (number, found[0][1])
        for at, test in enumerate(good[first], start=1):
            if at == len(words):
                return (number, found[-1][1] + len(words[-1]))
            if not test(words[at]):
                return (number, found[at][1])
        if len(words) > len(good[first]) + 1:
            return (number, found[len(good[first]) + 1][1])
        if first == "table":
            last = words[1]
            tables[last] = {}
        elif first in ("column", "required"):
            table[words[1]] = {"place": words[3] if len(words) > 2 else "main"}
            if first == "required":
                table[words[1]]["column"] = True
        else:
            table[words[1]]["reference" if first == "refers" else first] = words[3] if first == "refers" else True
    return tables


class ReadTest(unittest.TestCase):
    def test_the_blog(self):
        schema = read_schema(BLOG)
        self.assertIs(type(schema), Schema)
        self.assertEqual(schema, Schema(BLOG_TABLES))
        self.assertEqual([(table, list(schema.tables[table])) for table in schema.tables],
                         [("people", ["name", "mail"]), ("posts", ["author", "text", "answers"])])

    def test_blanks_remarks_and_empty_lines(self):
        expected = Schema({"a": {"b": {"place": "c", "index": True}}})
        for text in ("table a\ncolumn b in c\nindex b", "  table   a  \n column  b   in c \n\n \n   index b ",
                     "table a#b\ncolumn b in c# in d\nindex b ##",
                     "#\ntable a\n# table a\ncolumn b in c\nindex b#\n\n#",
                     "\n\n\ntable a #\ncolumn b in c\nindex b\n"):
            self.assertEqual(read_schema(text), expected, text)
        for text in ("", "\n", " ", "# table", "\n # \n"):
            self.assertEqual(read_schema(text), Schema({}))
        self.assertEqual(read_schema("table a"), Schema({"a": {}}))

    def test_words_may_be_names(self):
        text = ("table table\ncolumn column in in\nrequired in in required\nindex in\nrefers column to table\n"
                "unique column")
        self.assertEqual(read_schema(text).tables, {"table": {
            "column": {"place": "in", "reference": "table", "unique": True},
            "in": {"place": "required", "column": True, "index": True}}})

    def test_the_longest_names(self):
        text = "table abcdefgh\ncolumn zyxwvuts in azazazaz"
        self.assertEqual(read_schema(text).tables, {"abcdefgh": {"zyxwvuts": {"place": "azazazaz"}}})

    def test_the_same_column_of_two_tables(self):
        text = "table a\ncolumn u\ntable b\ncolumn u\nindex u"
        self.assertEqual(read_schema(text).tables, {"a": {"u": {"place": "main"}},
                                                    "b": {"u": {"place": "main", "index": True}}})

    def test_as_many_as_there_may_be(self):
        columns = [f"column {letter}" for letter in "abcdefgh"]
        text = "\n".join([line for table in "uvwxyz" for line in [f"table {table}", *columns]])
        schema = read_schema(text + "\nindex h\nunique h\nrefers a to u")
        self.assertEqual([len(schema.tables), *[len(schema.tables[table]) for table in schema.tables]], [6] + [8] * 6)
        self.wrong(text + "\n\ntable a", 56, 1)
        self.wrong(text + "\n table", 55, 2)
        self.wrong(text + "\n  column i", 55, 3)
        self.wrong(text + "\nindex h\nrequired", 56, 1)
        self.wrong("table t\n" + "\n".join(columns) + "\ncolumn", 10, 1)
        # Another table may be told where no further column may.
        self.assertEqual(len(read_schema("table t\n" + "\n".join(columns) + "\ntable u\ncolumn a").tables), 2)

    def wrong(self, text, line, column):
        with self.assertRaises(BadText) as caught:
            read_schema(text)
        self.assertEqual((caught.exception.line, caught.exception.column), (line, column), text)

    def test_first_words(self):
        self.wrong("tables a", 1, 1)
        self.wrong("  people", 1, 3)
        self.wrong("Table a", 1, 1)
        self.wrong("in", 1, 1)
        for word in ("column", "required", "index", "unique", "refers"):
            self.wrong(f"\n # \n  {word} a", 3, 3)
            self.wrong(f"{word}", 1, 1)
        self.wrong("table a\ncolumn b\nto b", 3, 1)
        self.wrong("table a\n\tcolumn b", 2, 1)
        self.wrong("table a\r\ncolumn b", 1, 7)
        self.wrong("table\u00a0a", 1, 1)

    def test_names(self):
        for name in ("abcdefghi", "A", "a1", "a_b", "\u00e4", "a\t", "1", "-", "a.b", "\u0430", "aB"):
            self.wrong(f" table {name}", 1, 8)
            self.wrong(f"table a\ncolumn {name}", 2, 8)
            self.wrong(f"table a\nrequired  {name} in main", 2, 11)
            self.wrong(f"table a\ncolumn b in {name}", 2, 13)
            self.wrong(f"table a\ncolumn b\nindex {name}", 3, 7)

    def test_names_that_were_told(self):
        self.wrong("table a\ntable b\ntable  a", 3, 8)
        self.wrong("table a\ncolumn b\ncolumn b", 3, 8)
        self.wrong("table a\ncolumn b\nrequired b in side", 3, 10)

    def test_names_that_were_not_told(self):
        for word in ("index", "unique", "refers"):
            self.wrong(f"table a\n{word} b", 2, len(word) + 2)
            self.wrong(f"table a\ncolumn b\ntable c\n{word} b", 4, len(word) + 2)
            self.wrong(f"table a\ncolumn b\n{word} a", 3, len(word) + 2)
        self.wrong("table a\ncolumn b\nrefers b to c", 3, 13)
        self.wrong("table a\ncolumn b\nrefers b to c\ntable c", 3, 13)
        self.wrong("table a\ncolumn b\nrefers b to b", 3, 13)

    def test_marks_that_were_told(self):
        self.wrong("table a\ncolumn b\nindex b\nunique b\nindex b", 5, 7)
        self.wrong("table a\ncolumn b\nunique b\nindex b\nunique   b", 5, 10)
        self.wrong("table a\ncolumn b\nrefers b to a\nrefers b to a", 4, 8)
        self.wrong("table a\ncolumn b\ntable c\ncolumn b\nrefers b to a\nrefers b to c", 6, 8)

    def test_words_between(self):
        self.wrong("table a\ncolumn b at c", 2, 10)
        self.wrong("table a\ncolumn b to c", 2, 10)
        self.wrong("table a\ncolumn b\nrefers b in a", 3, 10)
        self.wrong("table a\ncolumn b IN c", 2, 10)

    def test_words_that_lack(self):
        self.wrong("table", 1, 6)
        self.wrong("  table   # a", 1, 8)
        self.wrong("table a\ncolumn", 2, 7)
        self.wrong("table a\nrequired  ", 2, 9)
        self.wrong("table a\ncolumn  b   in  # main", 2, 15)
        self.wrong("table a\ncolumn b\nindex", 3, 6)
        self.wrong("table a\ncolumn b\nunique", 3, 7)
        self.wrong("table a\ncolumn b\nrefers", 3, 7)
        self.wrong("table a\ncolumn b\nrefers b", 3, 9)
        self.wrong("table a\ncolumn b\nrefers b  to", 3, 13)
        # Of the first wrong word and one that lacks, the first.
        self.wrong("table a\ncolumn b\nrefers c", 3, 8)
        self.wrong("table a\ncolumn b\nrefers b of", 3, 10)

    def test_words_too_many(self):
        self.wrong("table a b", 1, 9)
        self.wrong("table a\ncolumn b in c  d", 2, 16)
        self.wrong("table a\ncolumn b\nindex b b", 3, 9)
        self.wrong("table a\ncolumn b\nunique b index", 3, 10)
        self.wrong("table a\ncolumn b\nrefers b to a a", 3, 15)

    def test_the_first_wrong_line(self):
        self.wrong("table a\nx\ny", 2, 1)
        self.wrong("table a\ncolumn b\nindex c\nindex b b", 3, 7)

    def test_what_is_no_string(self):
        for value in (None, 7, b"table a", ["table a"], ("table a",), {}, True, Schema({})):
            self.wrong(value, 0, 0)

    def test_many_texts(self):
        chance = Random(9)
        words = ["table", "column", "required", "index", "unique", "refers", "in", "to", "a", "b", "c"]
        lines = ["table a", "table b", "table c", "column a", "column b", "required c", "column c in a", "index a",
                 "index b", "unique c", "unique a", "refers a to b", "refers b to a", "refers c to c", "", " # b", "x"]
        good = bad = 0
        for _ in range(4000):
            told = ["table a"] * (chance.random() < 0.9)
            for _ in range(chance.randrange(12)):
                line = chance.choice(lines) if chance.random() < 0.95 else " ".join(
                    chance.choice(words) for _ in range(chance.randrange(6)))
                told.append(" " * chance.randrange(3) + line.replace(" ", " " * chance.choice((1, 1, 2))))
            text = "\n".join(told)
            expected = plain_read(text)
            if isinstance(expected, tuple):
                self.wrong(text, *expected)
                bad += 1
            else:
                self.assertEqual(read_schema(text).tables, expected, text)
                good += 1
        self.assertGreater(min(good, bad), 400)


class WriteTest(unittest.TestCase):
    def test_the_blog(self):
        self.assertEqual(write_schema(Schema(BLOG_TABLES)), "\n".join([
            "table people", "column name", "unique name", "required mail in contacts", "index mail", "table posts",
            "column author", "index author", "unique author", "refers author to people", "column text in blobs",
            "column answers", "refers answers to posts"]))

    def test_little(self):
        self.assertEqual(write_schema(Schema({})), "")
        self.assertEqual(write_schema(Schema({"b": {}, "a": {}})), "table b\ntable a")
        self.assertEqual(write_schema(Schema({"b": {"d": {"place": "main"}, "c": {"place": "side", "column": True}}})),
                         "table b\ncolumn d\nrequired c in side")

    def test_a_table_that_is_told_later(self):
        self.assertEqual(write_schema(Schema({"a": {"u": {"place": "main", "reference": "b"}}, "b": {}})),
                         "table a\ncolumn u\nrefers u to b\ntable b")

    def test_written_and_read_again(self):
        chance = Random(1)
        for _ in range(300):
            tables = {}
            for table in chance.sample("uvwxyz", chance.randrange(7)):
                tables[table] = {}
                for column in chance.sample("abcdefgh", chance.randrange(9)):
                    told = {"place": chance.choice(("main", "main", "side", "in"))}
                    told.update({mark: True for mark in ("unique", "column", "index") if chance.random() < 0.4})
                    if chance.random() < 0.4:
                        told["reference"] = chance.choice(list(tables))
                    tables[table][column] = told
            text = write_schema(Schema(tables))
            schema = read_schema(text)
            self.assertEqual(schema.tables, tables)
            self.assertEqual([list(schema.tables[table]) for table in schema.tables],
                             [list(tables[table]) for table in tables])
            self.assertEqual(list(schema.tables), list(tables))
            self.assertEqual(write_schema(schema), text)


if __name__ == "__main__":
    unittest.main()

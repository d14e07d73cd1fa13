"""Table.read: point [7] and the interface, "pairsums/tables.py"."""

import re
import unittest

from pairsums.errors import InvalidText
from pairsums.tables import Table
from tests.kit import LETTERS, not_strings, side, tables, widest

FORM = re.compile(
    r"kind (bits|plain|[1-9][0-9]{0,9})"
    r"((\ncolumn [a-z]{1,8}(\nsum [a-z]{1,8})*(\ndatum [a-z]{1,8} [a-z]{1,8})*)+)")


def is_text(text):
    """Whether this is the text of a table, told otherwise than the program tells it."""
    found = FORM.fullmatch(text)
    if not found:
        return False
    if found.group(1).isdigit() and not 3 <= int(found.group(1)) <= 10 ** 9:
        return False
    names = re.findall(r"(?<=\ncolumn )[a-z]+", text)
    sums = re.findall(r"(?<=\nsum )[a-z]+", text)
    data = re.findall(r"(?<=\ndatum )[a-z]+ [a-z]+", text)
    pairs = [pair.split(" ") for pair in data]
    return (len(names) <= 8 and 1 <= len(sums) <= 10 and len(data) <= 24
            and len(set(names)) == len(names) and len(set(sums)) == len(sums)
            and all(one in sums and other in sums and one < other for one, other in pairs))


def near_in_letters(text):
    """Texts with a sign less, more, doubled or exchanged."""
    for at in range(len(text) + 1):
        yield text[:at] + text[at + 1:]
        yield text[:at] + text[at:at + 1] * 2 + text[at + 1:]
        for sign in " \n\t-+0159pqAz_.\r":
            yield text[:at] + sign + text[at:]
            yield text[:at] + sign + text[at + 1:]


def near_in_parts(text, between):
    """Texts with a line or a word less, more, doubled or exchanged."""
    parts = text.split(between)
    for at in range(len(parts) + 1):
        yield between.join(parts[:at] + parts[at + 1:])
        yield between.join(parts[:at] + parts[at:at + 1] * 2 + parts[at + 1:])
        for other in ["", "kind bits", "column far", "column x", "sum p", "sum x", "datum p q", "datum q p", "p", "q",
                      "sum", "datum", "column", "kind", "12", "Column x", "note x"]:
            yield between.join(parts[:at] + [other] + parts[at:])
            yield between.join(parts[:at] + [other] + parts[at + 1:])
        for other in range(at + 1, len(parts)):
            changed = list(parts)
            changed[at], changed[other] = changed[other], changed[at]
            yield between.join(changed)


class Read(unittest.TestCase):
    def assert_invalid(self, text):
        with self.subTest(text=text):
            with self.assertRaises(InvalidText) as held:
                Table.read(text)
            self.assertIs(held.exception.given, text)

    def assert_read(self, text):
        """The table with this text if there is one, InvalidText otherwise."""
        if not is_text(text):
            self.assert_invalid(text)
            return
        table = Table.read(text)
        self.assertEqual(str(table), text)
        self.assertEqual(Table(table.kind, table.columns), table)

    def test_what_str_gives(self):
        for table in tables():
            for read in [Table.read(str(table)), Table.read(text=str(table)), table.read(str(table))]:
                self.assertIs(type(read), Table)
                self.assertEqual(read, table)
                self.assertEqual(str(read), str(table))
                self.assertEqual(read.kind, table.kind)
                self.assertIs(type(read.kind), type(table.kind))
                self.assertEqual(read.columns, table.columns)
                self.assertEqual(read.cells, table.cells)

    def test_near_texts(self):
        for table in [side("plain"), side(12), Table("bits", (("a", ("p", "q"), ()), ("b", (), ())))]:
            for text in near_in_letters(str(table)):
                self.assert_read(text)

    def test_near_lines_and_words(self):
        for table in [side("bits"), side(10 ** 9), tables()[-1], widest()]:
            for between in ["\n", " "]:
                for text in near_in_parts(str(table), between):
                    self.assert_read(text)

    def test_kinds(self):
        columns = "\ncolumn a\nsum p"
        for word in ["3", "10", "999999999", "1000000000"]:
            self.assertEqual(Table.read("kind " + word + columns).kind, int(word))
        for word in ["0", "1", "2", "-3", "+3", "03", "003", "3 ", " 3", "3.0", "3.", "1e3", "0x10", "1_000", "1,000",
                     "1000000001", "01000000000", "9" * 30, "9" * 4000, "0" * 4000 + "3", "Bits", "bit", "", "bits ",
                     " bits", "'bits'", "3\t", "three", "None", "True", "\u0663", "\u00b3", "3\u0663"]:
            self.assert_invalid("kind " + word + columns)

    def test_other_texts(self):
        text = str(side())
        wrong = ["", " ", "\n", "kind", "kind bits", "kind bits\n", "kind bits\ncolumn a", "kind bits\nsum p",
                 "kind bits\ndatum p q", "column a\nsum p", "sum p", text + "\n", "\n" + text, text + " ", " " + text,
                 text + text, text + "\n" + text, text.replace("\n", "\r\n"), text.replace("\n", "\n\n"),
                 text.replace(" ", "  "), text.replace(" ", "\t"), text.upper(), text.replace("\n", " "), repr(side()),
                 text[5:], "kinds" + text[4:], "bind" + text[4:], text.replace("column", "Column")]
        for each in wrong:
            self.assert_invalid(each)

    def test_sums_behind_data(self):
        self.assert_invalid("kind bits\ncolumn a\nsum p\nsum q\ndatum p q\nsum r")
        self.assert_invalid("kind bits\ncolumn a\ndatum p q\nsum p\nsum q")

    def test_bounds(self):
        sums = "".join([f"\nsum {letter}" for letter in LETTERS[:10]])
        columns = "".join([f"\ncolumn {letter}" for letter in LETTERS[:8]])
        data = "\ndatum a b"
        self.assertEqual(repr(Table.read("kind bits" + columns + sums + data * 24)),
                         "Table of 8 columns, 10 sums and 24 data")
        self.assert_invalid("kind bits" + columns + "\ncolumn x" + sums + data * 24)
        self.assert_invalid("kind bits" + columns + sums + "\nsum k" + data * 24)
        self.assert_invalid("kind bits" + columns + sums + data * 25)
        self.assert_invalid("kind bits\ncolumn abcdefghi\nsum p")
        self.assert_invalid("kind bits\ncolumn a\nsum abcdefghi")

    def test_no_strings(self):
        for value in not_strings() + [side(), str(side()).encode(), str(side()).split("\n"), (str(side()),)]:
            self.assert_invalid(value)

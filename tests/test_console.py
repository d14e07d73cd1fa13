"""The console: the interface, "pairsums/console.py"."""

import inspect
import random

from pairsums.console import Console
from pairsums.desks import Desk
from pairsums.errors import InvalidLine, InvalidValues, NoAnswer, NotATable, WrongName, WrongValue
from pairsums.tables import Table
from tests.kit import (FORMS, KINDS, Anything, Case, formed, not_strings, not_tables, not_tuples, places, side, tables,
                       widest)
from tests.test_tables_values import some_values

COLUMNS = (("sum", ("datum", "column"), (("column", "datum"),)), ("column", ("sum",), (("datum", "sum"),)))


def shown(console, table):
    """All that a console shows."""
    return [console.say(line) for line in ["lost", "hope", *[f"show {what} {which}" for what, which in table.cells]]]


def in_words(cells):
    return ", ".join(f"{what} {which}" for what, which in cells) or "none"


class Lines(Case):
    def assert_said(self, console, talk):
        """That a console gives these answers to these lines, each told as `line = answer`."""
        for pair in " ".join(talk.split()).split("; "):
            line, answer = pair.split(" = ")
            told = console.say(line)
            self.assertEqual(told, answer, line)
            self.assertIs(type(told), str)

    def test_put(self):
        self.assert_said(Console(side(), (5, -2)), """
            put 0 5 = none; put 0 6 = sum p, datum 0, sum q; put 1 -7 = sum p, sum q, datum 1;
            show sum p = -1; show datum 1 = -7; put 1 0 = sum p, sum q, datum 1; show datum 1 = 0;
            show sum q = 6""")

    def test_great_numbers(self):
        most, beyond = 10 ** 30, 10 ** 30 + 1
        self.assert_said(Console(side(), (most, most)), f"""
            show sum p = {2 * most}; put 0 -{most} = sum p, datum 0, sum q; show datum 0 = -{most}; show sum q = 0;
            put 0 {beyond} = InvalidValues; put 0 -{beyond} = InvalidValues; put 0 {"9" * 79} = InvalidValues;
            put {"9" * 79} 0 = InvalidNumber; lose datum 0 = ok; give datum 0 {"9" * 79} = NotBack;
            give datum 0 -{most} = ok""")

    def test_lose(self):
        self.assert_said(Console(side(), (5, -2)), """
            lost = none; hope = none; lose datum 1 = ok; lost = datum 1; lose sum p = ok;
            lost = sum p, datum 1; lose sum p = InvalidLost; hope = sum p, datum 1; lose datum 0 = ok;
            hope = sum p; lose datum 0 = InvalidLost; show datum 0 = lost; show sum q = 3; show sum p = lost""")

    def test_lose_column(self):
        self.assert_said(Console(side(), (5, -2)), """
            lose column far = ok; lost = datum 1; lose column far = ok; lose column left = ok;
            lost = sum p, datum 0, datum 1; hope = sum p; undo = ok; undo = ok; lost = datum 1; undo = ok;
            lost = none; undo = NothingToUndo""")

    def test_mend_and_give(self):
        self.assert_said(Console(side(), (5, -2)), """
            mend = none; lose column left = ok; mend = sum p, datum 0; lost = none; lose datum 1 = ok;
            lose datum 0 = ok; mend = none; give datum 1 -2 = ok; give datum 1 -2 = NotLost;
            give datum 0 -5 = NotBack; give datum 0 6 = NotBack; mend = datum 0; give sum q 3 = NotLost;
            lose sum q = ok; give sum q 3 = ok; lost = none""")

    def test_names_of_errors(self):
        self.assert_said(Console(side(12), (5, 7)), """
            undo = NothingToUndo; put 2 0 = InvalidNumber; put 2 -1 = InvalidNumber; put 0 12 = InvalidValues;
            put 0 -1 = InvalidValues; give datum 0 5 = NotLost; lose datum 0 = ok; lose datum 0 = InvalidLost;
            put 0 5 = NotReady; put 1 5 = NotReady; put 2 5 = InvalidNumber; put 1 12 = InvalidValues;
            give datum 0 4 = NotBack; give datum 0 17 = NotBack; give datum 1 7 = NotLost;
            give datum 0 5 = ok; undo = ok; lost = datum 0; undo = ok; undo = NothingToUndo""")

    def test_undo(self):
        console = Console(side(), (5, -2))
        states = [shown(console, side())]
        lines = ["put 0 1", "put 0 1", "lose sum q", "lose column right", "lose column left", "give datum 0 1", "mend",
                 "mend", "put 1 3"]
        for line in lines:
            console.say(line)
            states.append(shown(console, side()))
        for state in states[-2::-1]:
            self.assertEqual(console.say("undo"), "ok")
            self.assertEqual(shown(console, side()), state)
        self.assertEqual(console.say("undo"), "NothingToUndo")

    def test_words_as_names(self):
        # Columns and sums called like the words of lines.
        console = Console(Table("plain", COLUMNS), (1, 2))
        self.assert_said(console, """
            show sum datum = 3; show sum sum = 2; show sum column = 1; lose sum sum = ok; lost = sum sum;
            lose column column = ok; lost = sum sum, datum 1; lose column sum = ok;
            lose sum column = InvalidLost""")
        self.assert_told(InvalidLine, "lose column datum", console.say, "lose column datum")

    def test_two_places_in_numbers(self):
        table = widest()
        console = Console(table, tuple(range(24)))
        self.assert_said(console, """
            show datum 10 = 10; show datum 23 = 23; lose datum 20 = ok; lost = datum 20""")
        self.assert_told(InvalidLine, "show datum 24", console.say, "show datum 24")

    def test_beside_a_desk(self):
        """Lines of all forms, beside a desk that is told the same."""
        chance = random.Random(13)
        found = [formed(form, chance.choice(KINDS)) for form in FORMS] + [places(kind, 5) for kind in KINDS]
        for table in found + tables():
            values = list(some_values(table))[3]
            console, desk = Console(table, values), Desk(table, values)
            for _ in range(40):
                line, deed = self.any_line(table, desk, chance)
                try:
                    told = deed()
                except (WrongValue, WrongName, NoAnswer) as error:
                    expected = type(error).__name__
                else:
                    expected = "ok" if line.split()[0] in ("lose", "give", "undo") else in_words(told)
                self.assertEqual(console.say(line), expected, line)
                self.assertEqual(console.say("lost"), in_words(desk.lost))
                self.assertEqual(console.say("hope"), in_words(desk.hope()))
                for (what, which), value in zip(table.cells, desk.cells):
                    self.assertEqual(console.say(f"show {what} {which}"), "lost" if value is None else str(value))

    def any_line(self, table, desk, chance):
        """A line, and what does the same at a desk."""
        cell = chance.choice(table.cells)
        number, value = chance.randint(0, len(table.data)), chance.choice([-1, 0, 1, 2, 5, 10 ** 9, -10 ** 30, 2 ** 60])
        name = chance.choice(table.names)
        had = chance.choice([value, dict(zip(table.cells, desk.cells))[cell] or 0, 1])
        words = f"{cell[0]} {cell[1]}"
        return chance.choice([
            (f"put {number} {value}", lambda: desk.put(number, value)), ("undo", desk.undo), ("mend", desk.mend),
            (f"lose {words}", lambda: desk.lose((cell,))), (f"lose column {name}", lambda: desk.lose_column(name)),
            (f"give {words} {had}", lambda: desk.give(cell, had))])


class WrongLines(Case):
    def setUp(self):
        self.console = Console(side(), (5, -2))
        self.console.say("put 0 6")
        self.console.say("lose datum 1")
        self.before = shown(self.console, side())

    def tearDown(self):
        """No line of the test has changed anything."""
        self.assertEqual(shown(self.console, side()), self.before)
        self.assertEqual([self.console.say("undo") for _ in range(3)], ["ok", "ok", "NothingToUndo"])

    def assert_wrong(self, *lines):
        for line in lines:
            self.assert_told(InvalidLine, line, self.console.say, line)
            self.assert_told(InvalidLine, line, self.console.say, line=line)

    def test_other_spaces(self):
        self.assert_wrong(" mend", "mend ", " undo", "undo ", "put  0 1", "put 0  1", " put 0 1", "put 0 1 ",
                          "put 0\t1", "put\n0 1", "put 0 1\n", "undo\n", "\nundo", "lose  sum p", "lose sum  p",
                          "lose sum p ", "lose sum p\n", "lose  column left", "lose column  left",
                          "lose column left ", "give  sum p 4", "give sum p  4", "give sum p 4 ", "show  sum p",
                          "show sum p ", "show sum p\n", "lost ", " lost", "hope ", "hope\n", "undo undo", "", " ",
                          "  ", "\n", "put 0 1\nundo")

    def test_other_words(self):
        self.assert_wrong("Undo", "UNDO", "und", "undoo", "redo", "Put 0 1", "set 0 1", "lose", "lose sum",
                          "lose datum", "lose column", "lose p", "lose left", "lose 0", "lose row left",
                          "lose columns left", "lose sum p q", "lose datum 0 1", "lose column left far",
                          "lose column left right", "give", "give sum p", "give datum 0", "give p 4",
                          "give column left 4", "give sum p 4 4", "show", "show p", "show 0", "show column left",
                          "show sum p q", "show sum", "show datum", "put", "put 0", "put 0 1 2", "put datum 0 1",
                          "put sum p 1", "lost sum p", "hope datum 1", "mend datum 1", "undo 1", "mend all", "none",
                          "ok", "sum p", "datum 0", "p", "0", "changes", "cells", "table", "trial",
                          "lose_column left", "lose,sum p", "lose sum, p", "lose sum p,", "lose sum p, datum 0")

    def test_numbers(self):
        numbers = ["00", "01", "+0", "+1", "-0", "-00", "-01", "--1", "- 1", "1.0", "1e0", "0x1", "1_0", "", "a", "-",
                   "+", "1-", "one", "\u0661", "\u00b2", "\uff11", "1\n", "0b1", "1,", "True", "None"]
        for number in numbers:
            self.assert_wrong(f"put {number} 1", f"put 0 {number}", f"lose datum {number}", f"show datum {number}",
                              f"give datum {number} 4", f"give datum 1 {number}", f"give sum p {number}")
        self.assert_wrong("put -1 1", "put -0 1", "lose datum -1", "show datum -1", "give datum -1 1")

    def test_names_and_numbers_that_are_not_there(self):
        self.assert_wrong("lose sum r", "lose sum left", "lose sum 0", "lose datum 2", "lose datum p", "lose datum 99",
                          "lose datum " + "9" * 79, "lose column p", "lose column rightt", "lose column 0",
                          "lose column sum", "lose column Left", "show sum r", "show datum 2", "show sum P",
                          "give sum r 1", "give datum 2 1", "give sum left 1", "lose sum ", "lose column ",
                          "show datum ", "lose Sum p", "lose Datum 0")

    def test_values_that_are_no_strings(self):
        self.assert_wrong(*not_strings(), *not_tuples()[:3], ["undo"], ("undo",), b"undo", b"", {"undo": 1}, Anything())


class Consoles(Case):
    def test_errors(self):
        for table in not_tables():
            self.assert_told(NotATable, table, Console, table, None)
        for values in [*not_tuples(), (), (5,), (5, -2, 0), [5, -2]]:
            self.assert_told(InvalidValues, None, Console, side(), values)
        self.assert_told(InvalidValues, 1, Console, side(), (5, True))
        self.assertEqual(Console(values=(5, -2), table=side()).say("show sum p"), "3")

    def test_a_console_equals_itself_alone(self):
        console, other = Console(side(), (5, -2)), Console(side(), (5, -2))
        self.assertTrue(console == console and not console != console)
        for value in [other, Desk(side(), (5, -2)), side(), None, "", 0, Anything()]:
            self.assertTrue(console != value and not console == value)
        self.assertIs(bool(console), True)

    def test_two_consoles(self):
        one, other = Console(side(), (5, -2)), Console(side(), (5, -2))
        one.say("put 0 6")
        other.say("lose column left")
        self.assertEqual((one.say("lost"), other.say("lost")), ("none", "sum p, datum 0"))
        self.assertEqual((one.say("show datum 0"), other.say("mend")), ("6", "sum p, datum 0"))
        self.assertEqual(other.say("show datum 0"), "5")

    def test_signatures(self):
        self.assertEqual(list(inspect.signature(Console).parameters), ["table", "values"])
        self.assertEqual(list(inspect.signature(Console(side(), (5, -2)).say).parameters), ["line"])

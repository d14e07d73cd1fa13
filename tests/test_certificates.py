"""Certificates: point [2], *Checker*, [16] and the interface, "pairsums/certificates.py"."""

import itertools
import random

from pairsums.certificates import certify_cell, certify_strength, certify_wrong
from pairsums.checker import accepts
from pairsums.columns import columns_back, strength
from pairsums.errors import InvalidCells, InvalidLost, InvalidNumber, NotATable, NotLost, UnknownName
from pairsums.losing import back, change, recipe
from pairsums.tables import Table
from pairsums.wrong import suspects
from tests.kit import (FORMS, KINDS, Case, formed, not_cells, not_integers, not_names, not_tables, not_tuples, places,
                       side, some_losses, tables, widest)
from tests.test_checker import some_tables
from tests.test_losing_restored import other_values
from tests.test_tables_values import some_values

P, Q, FIRST, SECOND = ("sum", "p"), ("sum", "q"), ("datum", 0), ("datum", 1)


class Certificates(Case):
    def assert_accepted(self, told, claim):
        """That a pair has this claim, and a certificate for it; returns the certificate."""
        self.assertIs(type(told), tuple)
        self.assertEqual(len(told), 2)
        self.assertEqual(told[0], claim)
        self.assert_plain(told)
        self.assertIs(accepts(*told), True, told)
        return told[1]

    def test_cells(self):
        words = set()
        for table in some_tables() + [formed(form, kind) for form in FORMS for kind in (5, 6, 999999999, 10 ** 9)]:
            for lost in some_losses(table, 4, 6):
                told_back = back(table, lost)
                for cell in lost[:4]:
                    word = "back" if cell in told_back else "gone"
                    words.add(word)
                    paper = self.assert_accepted(certify_cell(table, lost, cell), (word, str(table), lost, cell))
                    other = recipe(table, lost, cell) if word == "back" else change(table, lost, cell)
                    self.assertEqual(len(paper), len(other))
        self.assertEqual(words, {"back", "gone"})

    def test_cells_in_rings_of_kinds(self):
        three = (("datum", 3), ("datum", 5), ("datum", 1))
        for kind in KINDS:
            word = "back" if kind == "plain" or kind != "bits" and kind % 2 else "gone"
            table = places(kind, 5)
            for cell in three:
                self.assert_accepted(certify_cell(table, three, cell), (word, str(table), three, cell))

    def test_strength(self):
        for table in some_tables() + [widest(kind) for kind in KINDS] + [places(kind, 7) for kind in KINDS]:
            for number in range(len(table.names) + 3):
                word = "strong" if min(number, len(table.names)) <= strength(table) else "weak"
                paper = self.assert_accepted(certify_strength(table, number), (word, str(table), number))
                if word == "strong":
                    self.assertEqual(paper, ())
                else:
                    self.assertEqual(len(set(paper)), min(number, len(table.names)))
                    self.assertIs(columns_back(table, paper), False)

    def test_great_numbers(self):
        for number in (3, 4, 100, 10 ** 79):
            paper = self.assert_accepted(certify_strength(side(), number), ("weak", str(side()), number))
            self.assertEqual(sorted(paper), ["far", "left", "right"])
            alone = Table("bits", (("a", ("p",), ()),))
            self.assert_accepted(certify_strength(alone, number), ("strong", str(alone), number))

    def test_wrong(self):
        chance = random.Random(8)
        seen = {True: 0, False: 0}
        for table in some_tables() + [places(kind, 7) for kind in KINDS]:
            for values in itertools.islice(some_values(table), 4):
                right = table.full(values)
                name = chance.choice(table.names)
                column = table.cells_of(name)
                cells = tuple(other if cell in column else value
                              for cell, value, other in zip(table.cells, right, other_values(table, chance)))
                for passed in [right, cells, tuple(other_values(table, chance))]:
                    for each in table.names:
                        told = certify_wrong(table, passed, each)
                        is_suspect = each in suspects(table, passed)
                        self.assertIs(told is not None, is_suspect)
                        seen[is_suspect] += 1
                        if is_suspect:
                            paper = self.assert_accepted(told, ("wrong", str(table), passed, each))
                            self.assertEqual(len(paper), len(table.cells_of(each)))
        self.assertTrue(min(seen.values()) > 100, seen)

    def test_wrong_beyond_the_bounds(self):
        most = 10 ** 32
        claim = ("wrong", str(side()), (most, 0, most, 0), "far")
        self.assertEqual(self.assert_accepted(certify_wrong(side(), (most, 0, most, 0), "far"), claim), (most,))
        self.assertIsNone(certify_wrong(side(), (most, 0, most, 0), "right"))
        table = Table("plain", (("a", (), (("p", "q"), ("p", "r"), ("q", "r"))), ("b", ("p", "q", "r"), ())))
        cells = (0, 0, 0, most, most, -most)
        paper = self.assert_accepted(certify_wrong(table, cells, "a"), ("wrong", str(table), cells, "a"))
        self.assertEqual(paper, (most * 3 // 2, -most // 2, -most // 2))
        self.assertIsNone(certify_wrong(table, (0, 0, 0, most, most, 1), "a"))

    def test_columns_without_cells(self):
        table = Table("bits", (("a", (), ()), ("b", ("p",), ())))
        self.assert_accepted(certify_wrong(table, (0,), "a"), ("wrong", str(table), (0,), "a"))
        self.assertIsNone(certify_wrong(table, (1,), "a"))
        self.assertEqual(certify_wrong(table, (1,), "b"), (("wrong", str(table), (1,), "b"), (0,)))

    def test_by_name(self):
        self.assertEqual(certify_cell(cell=P, lost=(P,), table=side()), certify_cell(side(), (P,), P))
        self.assertEqual(certify_strength(number=1, table=side()), (("strong", str(side()), 1), ()))
        self.assertEqual(certify_wrong(name="left", cells=(3, 5, 4, -2), table=side()),
                         (("wrong", str(side()), (3, 5, 4, -2), "left"), (4, 6)))

    def test_equal_calls(self):
        for table in tables():
            other = Table.read(str(table))
            self.assertEqual(certify_cell(table, table.cells, table.cells[-1]),
                             certify_cell(other, other.cells, other.cells[-1]))
            self.assertEqual(certify_strength(table, 2), certify_strength(other, 2))


class Errors(Case):
    def test_in_the_order_of_the_signature(self):
        for table in not_tables():
            for call, many in [(certify_cell, 2), (certify_strength, 1), (certify_wrong, 2)]:
                self.assert_told(NotATable, table, call, table, *[None] * many)
        for lost in not_tuples():
            self.assert_told(InvalidLost, None, certify_cell, side(), lost, None)
        for cell in not_cells():
            self.assert_told(InvalidLost, 1, certify_cell, side(), (P, cell), cell)
            self.assert_told(NotLost, cell, certify_cell, side(), (P, FIRST, SECOND), cell)
        self.assert_told(NotLost, Q, certify_cell, side(), (P, FIRST, SECOND), Q)
        self.assert_told(InvalidLost, 2, certify_cell, side(), (P, FIRST, P), Q)
        for number in [*not_integers(), -1, -10 ** 79]:
            self.assert_told(InvalidNumber, number, certify_strength, side(), number)
        for cells in [*not_tuples(), (), (3, 5, 4)]:
            self.assert_told(InvalidCells, None, certify_wrong, side(), cells, None)
        self.assert_told(InvalidCells, 3, certify_wrong, side(), (3, 5, 4, True), "p")
        for name in [*not_names(), "p", "lef"]:
            for cells in [(3, 5, 4, -2), (3, 5, 3, -2)]:
                self.assert_told(UnknownName, name, certify_wrong, side(), cells, name)

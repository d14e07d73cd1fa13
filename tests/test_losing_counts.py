"""How few lost cells are gone, and how many sets come back: `fewest_gone` and `count_back`."""

import itertools
import math

from pairsums.errors import InvalidNumber, NotATable
from pairsums.losing import comes_back, count_back, fewest_gone
from pairsums.tables import Table
from tests.kit import FORMS, KINDS, Case, formed, not_integers, places, side, tables, widest
from tests.search import back_by_search


def fewest_by_search(table):
    for many in range(len(table.cells) + 1):
        for lost in itertools.combinations(table.cells, many):
            if len(back_by_search(table, lost)) < many:
                return many
    return None


class FewestGone(Case):
    def test_like_a_search(self):
        for form in FORMS:
            for kind in ["bits", "plain", 3, 4, 5]:
                table = formed(form, kind)
                if len(table.data) or len(table.cells) < 8:
                    self.assertEqual(fewest_gone(table), fewest_by_search(table), (form, kind))

    def test_named(self):
        for kind in KINDS:
            self.assertIsNone(fewest_gone(formed("no data", kind)))
            self.assertIsNone(fewest_gone(Table(kind, (("one", tuple("abcdefghij"), ()),))))
            self.assertEqual(fewest_gone(formed("one datum", kind)), 3)
            self.assertEqual(fewest_gone(formed("two of the same", kind)), 2)
            self.assertEqual(fewest_gone(formed("three of the same", kind)), 2)
            self.assertEqual(fewest_gone(formed("line with one twice", kind)), 2)
            self.assertEqual(fewest_gone(formed("star", kind)), 3)
            self.assertEqual(fewest_gone(places(kind, 5)), 3)
            self.assertEqual(fewest_gone(table=places(kind, 7)), 3)
            self.assertEqual(fewest_gone(side(kind)), 2)

    def test_fewer_come_back_and_so_many_do_not(self):
        for table in tables() + [places("bits", 7)]:
            least = fewest_gone(table)
            for many in range(least or 3):
                self.assertTrue(all(comes_back(table, lost) for lost in itertools.combinations(table.cells, many)))
            if least is not None:
                self.assertFalse(all(comes_back(table, lost) for lost in itertools.combinations(table.cells, least)))

    def test_not_a_table(self):
        for table in [None, (), "kind bits", Table, side().columns]:
            self.assert_told(NotATable, table, fewest_gone, table)


class CountBack(Case):
    def test_like_a_search(self):
        for form in FORMS:
            for kind in ["bits", "plain", 3, 4, 5]:
                table = formed(form, kind)
                for many in range(4):
                    expected = sum(len(back_by_search(table, lost)) == many
                                   for lost in itertools.combinations(table.cells, many))
                    self.assertEqual(count_back(table, many), expected, (form, kind, many))

    def test_rounds(self):
        for kind, three in [("bits", 4 + 6), (12, 4 + 6), ("plain", 6), (9, 6)]:
            # Ten cells, in bits and on even dials without the four rings of three and the six data with their sums.
            table = places(kind, 5)
            self.assertEqual([count_back(table, many) for many in range(4)], [1, 10, 45, 120 - three])

    def test_more_than_there_are_cells(self):
        for kind in KINDS:
            alone = Table(kind, (("one", ("p",), ()),))
            self.assertEqual([count_back(alone, many) for many in range(4)], [1, 1, 0, 0])
            self.assertEqual([count_back(formed("no data", kind), many) for many in range(4)], [1, 2, 1, 0])
            self.assertEqual([count_back(formed("one datum", kind), many) for many in range(4)], [1, 3, 3, 0])

    def test_widest(self):
        for kind in ["bits", "plain", 12]:
            table = widest(kind)
            cells = len(table.cells)
            self.assertEqual([count_back(table, many) for many in range(3)], [1, cells, math.comb(cells, 2)])
            gone = sum(not comes_back(table, lost) for lost in itertools.combinations(table.cells, 3))
            self.assertEqual(count_back(table, 3), math.comb(cells, 3) - gone)

    def test_wrong_numbers(self):
        table = side()
        for number in [*not_integers(), 4, -1, 5, 34, 10 ** 79, -10 ** 79, [0], (0,), "0"]:
            self.assert_told(InvalidNumber, number, count_back, table, number)
            self.assert_told(InvalidNumber, number, count_back, number=number, table=table)
            self.assert_told(NotATable, number, count_back, number, number)
        self.assertEqual(count_back(number=2, table=table), count_back(table, 2))

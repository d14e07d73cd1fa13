"""Data values, cell values and what is right: point [8], `full` and `is_right`."""

import unittest

from pairsums.errors import InvalidCells, InvalidValues
from pairsums.tables import Table
from tests.kit import not_integers, side, tables, widest

MOST = {"bits": 2 ** 60 - 1, "plain": 10 ** 30, 3: 2, 12: 11, 10 ** 9: 10 ** 9 - 1}
LEAST = {"bits": 0, "plain": -10 ** 30, 3: 0, 12: 0, 10 ** 9: 0}


def together(kind, values):
    """The value of a sum, told bit by bit and step by step."""
    if kind == "bits":
        return sum(1 << bit for bit in range(70) if sum(value >> bit & 1 for value in values) % 2)
    total = 0
    for value in values:
        total += value
        while kind != "plain" and total >= kind:
            total -= kind
    return total


def filled(table, values):
    found = []
    for what, which in table.cells:
        if what == "datum":
            found.append(values[which])
        else:
            found.append(together(table.kind, [value for value, pair in zip(values, table.data) if which in pair]))
    return tuple(found)


def some_values(table):
    """Several data values of a table, with its bounds among them."""
    least, most = LEAST.get(table.kind, 0), MOST.get(table.kind, 2)
    if isinstance(table.kind, int):
        most = table.kind - 1
    many = len(table.data)
    yield (least,) * many
    yield (most,) * many
    yield tuple(least if number % 2 else most for number in range(many))
    yield tuple(least + (number * number * 7919 + number) % (most - least + 1) for number in range(many))
    yield tuple(most - (number * 104729 + 3) % (most - least + 1) for number in range(many))


class Full(unittest.TestCase):
    def test_example(self):
        self.assertEqual(side().full((5, -2)), (3, 5, 3, -2))
        self.assertEqual(side("bits").full((5, 6)), (3, 5, 3, 6))
        self.assertEqual(side(12).full((5, 9)), (2, 5, 2, 9))
        self.assertEqual(side(12).full(values=(5, 7)), (0, 5, 0, 7))

    def test_all_tables(self):
        for table in tables():
            for values in some_values(table):
                cells = table.full(values)
                self.assertEqual(cells, filled(table, values))
                self.assertIs(type(cells), tuple)
                self.assertTrue(all(type(value) is int for value in cells))
                self.assertIs(table.is_right(cells), True)

    def test_sums_without_data(self):
        for kind in MOST:
            table = Table(kind, (("a", ("p", "q", "r"), (("p", "r"),)), ("b", ("s",), ())))
            self.assertEqual(table.full((2,)), (2, 0, 2, 2, 0))
            self.assertIs(table.is_right((2, 0, 2, 2, 0)), True)
            self.assertIs(table.is_right((2, 1, 2, 2, 0)), False)
            self.assertIs(table.is_right((2, 0, 2, 2, 2)), False)
        alone = Table("plain", (("a", ("p",), ()),))
        self.assertEqual(alone.full(()), (0,))
        self.assertIs(alone.is_right((0,)), True)
        self.assertIs(alone.is_right((1,)), False)

    def test_greatest_sums(self):
        table = Table("plain", (("a", ("p", "q"), (("p", "q"),) * 24),))
        for bound in [10 ** 30, -10 ** 30]:
            self.assertEqual(table.full((bound,) * 24), (24 * bound,) * 2 + (bound,) * 24)
            self.assertIs(table.is_right((24 * bound,) * 2 + (bound,) * 24), True)

    def test_bounds(self):
        for kind, most in MOST.items():
            least = LEAST[kind]
            table = side(kind)
            for values in [(least, least), (least, most), (most, least), (most, most)]:
                self.assertEqual(table.full(values), filled(table, values))
            for at, values in [(0, (least - 1, least)), (0, (most + 1, most)), (1, (least, least - 1)),
                               (1, (most, most + 1)), (0, (most + 1, least - 1)), (1, (most, 10 ** 79))]:
                self.assert_values(at, table, values)

    def assert_values(self, index, table, values):
        with self.subTest(table=str(table), values=values):
            with self.assertRaises(InvalidValues) as held:
                table.full(values)
            self.assertEqual(held.exception.index, index)
            if index is not None:
                self.assertIs(type(held.exception.index), int)

    def test_wrong_values(self):
        for kind in MOST:
            table = side(kind)
            for value in not_integers():
                self.assert_values(0, table, (value, 1))
                self.assert_values(1, table, (1, value))
                self.assert_values(0, table, (value, value))
        wide = widest("plain")
        for at in range(24):
            self.assert_values(at, wide, (0,) * at + (None,) + (10 ** 31,) * (23 - at))

    def test_no_such_tuples(self):
        for kind in MOST:
            table = side(kind)
            for values in [(), (1,), (1, 1, 1), (None,), (None, None, None), [1, 1], [], "11", {0: 1, 1: 1}, {1, 2},
                           None, True, 0, 2, b"11", (1,) * 24, ((1, 1),)]:
                self.assert_values(None, table, values)
        self.assert_values(None, Table("bits", (("a", ("p",), ()),)), (0,))
        self.assert_values(None, Table("bits", (("a", ("p",), ()),)), [])


class IsRight(unittest.TestCase):
    def assert_cells(self, index, table, cells):
        with self.subTest(table=str(table), cells=cells):
            with self.assertRaises(InvalidCells) as held:
                table.is_right(cells)
            self.assertEqual(held.exception.index, index)
            if index is not None:
                self.assertIs(type(held.exception.index), int)

    def test_example(self):
        self.assertIs(side().is_right((3, 5, 3, -2)), True)
        self.assertIs(side().is_right((3, 5, 4, -2)), False)
        self.assertIs(side().is_right(cells=(4, 5, 3, -2)), False)
        self.assertIs(side("bits").is_right((3, 5, 3, 6)), True)
        self.assertIs(side("bits").is_right((11, 5, 11, 6)), False)
        self.assertIs(side(12).is_right((2, 5, 2, 9)), True)
        self.assertIs(side(12).is_right((2, 5, 2, 8)), False)

    def test_each_wrong_cell_is_found(self):
        for table in tables():
            for values in some_values(table):
                cells = table.full(values)
                for at, (what, which) in enumerate(table.cells):
                    # A value that fits the kind, and is another one.
                    other = cells[at] + 1 if cells[at] < 1 else cells[at] - 1
                    changed = cells[:at] + (other,) + cells[at + 1:]
                    self.assertIs(table.is_right(changed), False, (str(table), values, (what, which)))

    def test_bounds_of_data_and_sums(self):
        for kind, most in MOST.items():
            table = side(kind)
            for at, (what, _) in enumerate(table.cells):
                high, low = most, LEAST[kind]
                if kind == "plain" and what == "sum":
                    high, low = 10 ** 32, -10 ** 32
                right = table.full((1, 1))
                for bound, beyond in [(high, high + 1), (low, low - 1)]:
                    self.assertIn(table.is_right(right[:at] + (bound,) + right[at + 1:]), (True, False))
                    self.assert_cells(at, table, right[:at] + (beyond,) + right[at + 1:])
                    self.assert_cells(at, table, right[:at] + (beyond,) * (4 - at))

    def test_wrong_values(self):
        for kind in MOST:
            table = side(kind)
            for value in not_integers():
                for at in range(4):
                    self.assert_cells(at, table, (1,) * at + (value,) + (1,) * (3 - at))
                    self.assert_cells(at, table, (1,) * at + (value,) * (4 - at))

    def test_no_such_tuples(self):
        for kind in MOST:
            table = side(kind)
            for cells in [(), (0,), (0, 0, 0), (0,) * 5, (None,) * 3, (None,) * 5, [0, 0, 0, 0], [], "0000", None, True,
                          0, 4, {0: 0, 1: 0, 2: 0, 3: 0}, {0, 1, 2, 3}, b"0000", ((0, 0, 0, 0),)]:
                self.assert_cells(None, table, cells)

    def test_equal_calls_return_equal_results(self):
        for table in tables():
            for values in some_values(table):
                cells = table.full(values)
                self.assertEqual(cells, Table.read(str(table)).full(values))
                self.assertEqual(cells, table.full(values=values))
                self.assertIs(table.is_right(cells), table.is_right(cells=cells))

"""Wrong cell values: points [2], *Wrong ones*, [8] and the interface, "pairsums/wrong.py"."""

import itertools
import random

from pairsums.errors import InvalidCells, NoAnswer, NotATable, NotRight, UnknownName
from pairsums.rounds import prime_rounds, table_of
from pairsums.tables import Table
from pairsums.wrong import lacks, righted, suspects
from tests.kit import FORMS, KINDS, Case, formed, places, side, tables, widest
from tests.search import can_be_right, put
from tests.test_losing_restored import other_values
from tests.test_reading import chance_tables
from tests.test_tables_values import filled, some_values

SMALL_KINDS = ("bits", "plain", 3, 4, 5, 6)


def numbers_for(kind):
    """The values that the search tries for a lost datum; in plain the ones put otherwise are small."""
    if kind == "bits":
        return range(4)
    return range(-9, 10) if kind == "plain" else range(kind)


def small_values(table, chance):
    """Right cell values, small enough for the search."""
    most = {"bits": 3, "plain": 2}.get(table.kind) or table.kind - 1
    least = -2 if table.kind == "plain" else 0
    return table.full(tuple(chance.randint(least, most) for _ in table.data))


def put_otherwise(table, cells, many, chance):
    """The cell values with so many of them put otherwise, by little in plain."""
    found = list(cells)
    for at in chance.sample(range(len(cells)), min(many, len(cells))):
        if table.kind == "plain":
            found[at] += chance.choice([-2, -1, 1, 2])
        else:
            found[at] = chance.choice(list(numbers_for(table.kind)))
    return tuple(found)


def with_column_otherwise(table, cells, name, chance):
    """The cell values with any valid ones in this column."""
    column = table.cells_of(name)
    return tuple(other if cell in column else value
                 for cell, value, other in zip(table.cells, cells, other_values(table, chance)))


def is_all_right(table, cells):
    """Whether cell values are right, those beyond the bounds in plain too."""
    data = [value for (what, _), value in zip(table.cells, cells) if what == "datum"]
    return cells == filled(table, data)


class Lacks(Case):
    def assert_lacks(self, table, cells):
        told = lacks(table, cells)
        self.assert_plain(told)
        names = [name for name, _ in told]
        self.assertEqual(names, [name for name in table.sums if name in names])
        numbers = dict(told)
        made = tuple(put(table.kind, value, numbers.get(which, 0)) if what == "sum" else value
                     for (what, which), value in zip(table.cells, cells))
        self.assertTrue(is_all_right(table, made))
        for number in numbers.values():
            self.assertNotEqual(number, 0)
            if table.kind != "plain":
                self.assertTrue(0 < number < (2 ** 60 if table.kind == "bits" else table.kind))
        self.assertIs(table.is_right(cells), told == ())

    def test_any_cell_values(self):
        chance = random.Random(5)
        for table in tables() + [places(kind, 5) for kind in KINDS] + [widest(kind) for kind in KINDS]:
            for _ in range(5):
                self.assert_lacks(table, tuple(other_values(table, chance)))

    def test_right_ones(self):
        for table in tables():
            for values in some_values(table):
                self.assertEqual(lacks(table, table.full(values)), ())

    def test_one_sum(self):
        for kind, number in [("bits", 6), ("plain", -2), (12, 10), (3, 2), (10 ** 9, 2)]:
            table = side(kind)
            cells = {"bits": (3, 3, 5, 0), "plain": (3, 3, 5, 0), 12: (2, 2, 4, 0), 3: (1, 1, 2, 0)}.get(kind)
            cells = cells or (10 ** 9 - 1, 10 ** 9 - 1, 10 ** 9 - 3, 0)
            self.assertEqual(lacks(table, cells), (("q", number),))

    def test_a_datum_stands_in_two(self):
        self.assertEqual(lacks(side(), (3, 6, 3, -2)), (("p", 1), ("q", 1)))
        self.assertEqual(lacks(side(12), (3, 6, 3, 8)), (("p", 11), ("q", 11)))
        self.assertEqual(lacks(side("bits"), (3, 1, 3, 6)), (("p", 4), ("q", 4)))

    def test_order_is_that_of_the_sums(self):
        table = Table("plain", (("b", ("z",), ()), ("a", ("m", "a"), (("a", "z"),)), ("c", ("b",), ())))
        self.assertEqual(lacks(table, (1, 2, 3, 4, 5)), (("z", 3), ("m", -2), ("a", 1), ("b", -5)))

    def test_beyond_the_bounds(self):
        most = 10 ** 32
        self.assertEqual(lacks(side(), (most, 0, -most, 0)), (("p", -most), ("q", most)))
        self.assertEqual(lacks(side(), (-most, 10 ** 30, most, 10 ** 30)),
                         (("p", 102 * 10 ** 30), ("q", -98 * 10 ** 30)))

    def test_by_name(self):
        self.assertEqual(lacks(cells=(3, 5, 4, -2), table=side()), (("q", -1),))


class Suspects(Case):
    def assert_suspects(self, table, cells, expected):
        """That just these columns are suspect, and that each of them can be righted, no other one."""
        told = suspects(table, cells)
        self.assertEqual(told, expected, (str(table), cells))
        self.assert_plain(told)
        for name in table.names:
            if name not in expected:
                self.assert_told(NotRight, None, self.call_righted, table, cells, name)
                continue
            made = righted(table, cells, name)
            self.assert_plain(made)
            self.assertTrue(is_all_right(table, made), (str(table), cells, name, made))
            self.assertEqual([value for cell, value in zip(table.cells, made) if cell not in table.cells_of(name)],
                             [value for cell, value in zip(table.cells, cells) if cell not in table.cells_of(name)])
            if table.kind != "plain":
                self.assertTrue(all(0 <= value < (2 ** 60 if table.kind == "bits" else table.kind) for value in made))
            if table.is_right(cells):
                self.assertEqual(suspects(table, made), table.names)

    def call_righted(self, table, cells, name):
        try:
            righted(table, cells, name)
        except NotRight as error:
            self.assertIs(type(error).__bases__[0], NoAnswer)
            error.given = None
            raise

    def assert_like_a_search(self, table, cells):
        expected = tuple(name for name in table.names
                         if can_be_right(table, table.cells_of(name), cells, numbers_for(table.kind)))
        self.assert_suspects(table, cells, expected)
        return expected

    def test_like_a_search(self):
        chance = random.Random(7)
        found = [formed(form, kind) for form in FORMS for kind in SMALL_KINDS]
        found.extend(table for table in chance_tables(500, 2) if table.kind in SMALL_KINDS)
        many = {}
        for table in found:
            if max(len([cell for cell in table.cells_of(name) if cell[0] == "datum"]) for name in table.names) > 3:
                continue
            for otherwise in (0, 1, 1, 2, 3):
                cells = put_otherwise(table, small_values(table, chance), otherwise, chance)
                told = len(self.assert_like_a_search(table, cells))
                many[told, len(table.names)] = True
        self.assertLessEqual({(0, 4), (1, 4), (2, 4), (3, 4), (4, 4)}, set(many))

    def test_right_cell_values_have_all_columns(self):
        for table in tables() + [places(kind, 7) for kind in KINDS]:
            for values in some_values(table):
                cells = table.full(values)
                self.assert_suspects(table, cells, table.names)

    def test_the_column_that_is_put_otherwise(self):
        chance = random.Random(9)
        for kind in KINDS:
            for table in [places(kind, 3), places(kind, 5), places(kind, 7), widest(kind)]:
                for values in some_values(table):
                    for name in table.names:
                        cells = with_column_otherwise(table, table.full(values), name, chance)
                        self.assertIn(name, suspects(table, cells))
                        self.assert_suspects(table, cells, suspects(table, cells))

    def test_perfect_rounds_tell_one_column_and_its_values(self):
        chance = random.Random(11)
        for kind in KINDS:
            for prime in (5, 7):
                table = places(kind, prime)
                right = small_values(table, chance) if kind in SMALL_KINDS else table.full((1,) * len(table.data))
                for name in table.names:
                    cells = with_column_otherwise(table, right, name, chance)
                    if cells != right:
                        self.assertEqual(suspects(table, cells), (name,))
                        self.assertEqual(righted(table, cells, name), right)

    def test_right_ones_stay_or_are_right(self):
        for table in tables():
            for values in some_values(table):
                cells = table.full(values)
                for name in table.names:
                    self.assertTrue(table.is_right(righted(table, cells, name)))

    def test_columns_without_cells(self):
        for kind in KINDS:
            table = Table(kind, (("a", ("p",), ()), ("b", (), ()), ("c", ("q",), (("p", "q"),))))
            self.assert_suspects(table, (1, 1, 1), ("a", "b", "c"))
            self.assertEqual(righted(table, (1, 1, 1), "b"), (1, 1, 1))
            self.assert_suspects(table, (0, 1, 1), ("a", "c"))
            self.assert_suspects(table, (1, 0, 1), ("c",))
            self.assert_suspects(table, (1, 1, 0), ("c",))
            self.assert_suspects(table, (1, 0, 0), ("a", "c"))
            self.assertEqual(suspects(Table(kind, (("a", ("p",), ()), ("b", (), ()), ("c", ("q",), ()))), (1, 1)), ())

    def test_a_ring_in_one_column(self):
        # What the three sums lack must be even together in plain and on even dials, nothing in bits.
        columns = (("a", (), (("p", "q"), ("p", "r"), ("q", "r"))), ("b", ("p", "q", "r"), ()))
        for at_p, at_q, at_r in itertools.product(range(4), repeat=3):
            cells = (0, 0, 0, at_p, at_q, at_r)
            is_even = (at_p + at_q + at_r) % 2 == 0
            for kind in ["plain", 4, 6, 12, 10 ** 9]:
                self.assert_suspects(Table(kind, columns), cells, ("a", "b") if is_even else ("b",))
            for kind in [5, 7, 999999999]:
                self.assert_suspects(Table(kind, columns), cells, ("a", "b"))
            self.assert_suspects(Table("bits", columns), cells, ("a", "b") if at_p ^ at_q ^ at_r == 0 else ("b",))

    def test_a_ring_of_four_in_one_column(self):
        columns = (("a", (), (("p", "q"), ("q", "r"), ("r", "s"), ("p", "s"))), ("b", ("p", "q", "r", "s"), ()))
        for at in itertools.product(range(3), repeat=4):
            cells = (0, 0, 0, 0, *at)
            for kind in ["plain", 3, 5, 6, 10 ** 9]:
                rest = at[0] - at[1] + at[2] - at[3]
                fits = rest == 0 if kind == "plain" else rest % kind == 0
                self.assert_suspects(Table(kind, columns), cells, ("a", "b") if fits else ("b",))
            fits = at[0] ^ at[1] ^ at[2] ^ at[3] == 0
            self.assert_suspects(Table("bits", columns), cells, ("a", "b") if fits else ("b",))

    def test_a_datum_with_both_sums_with_one_with_none(self):
        for kind in KINDS:
            table = Table(kind, (("a", ("p", "q"), (("p", "q"),)), ("b", ("r",), (("p", "q"),)),
                                 ("c", (), (("p", "r"),))))
            two = put(kind, 1, 1)
            # p, q, first datum; r, second; third.
            self.assert_suspects(table, (1, 1, 1, 0, 0, 0), ("a", "b", "c"))
            self.assert_suspects(table, (0, 1, 1, 0, 0, 0), ("a",))
            self.assert_suspects(table, (1, 1, 1, 1, 0, 0), ("b",))
            self.assert_suspects(table, (1, 1, 1, 0, 0, 1), ("c",))
            self.assert_suspects(table, (two, 1, 1, 1, 0, 0), ("c",))
            self.assert_suspects(table, (1, 1, 0, 0, 0, 0), ("a", "b"))
            self.assert_suspects(table, (1, two, 1, 1, 0, 0), ())

    def test_plain_beyond_the_bounds(self):
        most = 10 ** 32
        for cells in [(most, 0, most, 0), (-most, 10 ** 30, -most, 0), (most, -10 ** 30, most, 10 ** 30)]:
            self.assert_suspects(side(), cells, ("left", "far"))
        self.assert_suspects(side(), (most, 0, -most, 0), ("left",))
        self.assertEqual(righted(side(), (most, 0, most, 0), "far"), (most, 0, most, most))
        self.assertEqual(righted(side(), (0, -10 ** 30, -most, 0), "left"), (-most, -most, -most, 0))
        table = Table("plain", (("a", (), (("p", "q"), ("p", "r"), ("q", "r"))), ("b", ("p", "q", "r"), ())))
        made = righted(table, (0, 0, 0, most, most, -most), "a")
        self.assertEqual(made, (most * 3 // 2, -most // 2, -most // 2, most, most, -most))
        table = Table("plain", (("a", ("p",), (("p", "q"), ("q", "r"))), ("b", ("q", "r"), ())))
        self.assertEqual(righted(table, (0, 0, 0, most, -most), "a"), (2 * most, 2 * most, -most, most, -most))

    def test_order_is_that_of_the_columns(self):
        table = Table("bits", (("z", (), (("p", "q"),)), ("m", ("p",), ()), ("a", (), (("p", "q"),)),
                               ("b", ("q",), ())))
        self.assert_suspects(table, (1, 1, 1, 1), ("z", "a"))
        self.assert_suspects(table, (1, 1, 1, 0), ("m",))
        self.assert_suspects(table, (1, 0, 1, 0), ("z", "m", "a", "b"))

    def test_by_name(self):
        self.assertEqual(suspects(cells=(3, 5, 4, -2), table=side()), ("left", "right"))
        self.assertEqual(righted(name="right", cells=(3, 5, 4, -2), table=side()), (3, 5, 3, -2))


class Wrong(Case):
    def test_not_right_comes_last(self):
        cells = (3, 5, 4, -2)
        self.assert_told(UnknownName, "p", righted, side(), cells, "p")
        self.assert_told(InvalidCells, None, righted, side(), cells[:3], "far")
        self.assert_told(NotATable, None, righted, None, cells, "far")
        with self.assertRaises(NotRight) as held:
            righted(side(), cells, "far")
        self.assertEqual(vars(held.exception), {})

    def test_nothing_is_changed(self):
        cells = [3, 5, 4, -2]
        for call in (lacks, suspects):
            self.assert_told(InvalidCells, None, call, side(), cells)
        self.assertEqual(cells, [3, 5, 4, -2])
        table = table_of("plain", prime_rounds(5))
        text = str(table)
        passed = table.full((1, 2, 3, 4, 5, 6))
        righted(table, passed, "ra")
        self.assertEqual((str(table), passed), (text, table.full((1, 2, 3, 4, 5, 6))))

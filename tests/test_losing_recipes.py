"""Recipes and changes: points [9] and [11], `recipe` and `change`."""

import itertools
import random

from pairsums.losing import back, change, recipe
from pairsums.tables import Table
from tests.kit import FORMS, KINDS, Case, formed, places, some_losses, tables, widest
from tests.search import put


def bounds(kind):
    """The least and the greatest data value."""
    if kind == "bits":
        return 0, 2 ** 60 - 1
    return (-10 ** 30, 10 ** 30) if kind == "plain" else (0, kind - 1)


def several_values(table):
    """Data values: each datum by itself, all at the bounds, and some between."""
    low, high = bounds(table.kind)
    many = len(table.data)
    chance = random.Random(many)
    yield (0,) * many
    for number in range(many):
        for value in {low, high, 1}:
            yield (0,) * number + (value,) + (0,) * (many - number - 1)
    for at_bounds in [(low,), (high,), (low, high), (high, low, high)]:
        yield tuple(at_bounds[number % len(at_bounds)] for number in range(many))
    for _ in range(5):
        yield tuple(chance.randint(low, high) for _ in range(many))


def worth(kind, factors, values):
    total = 0
    for cell, factor in factors:
        for _ in range(abs(factor)) if abs(factor) <= 2 else ():
            total = put(kind, total, values[cell] if factor > 0 else -values[cell])
        if abs(factor) > 2:
            total = put(kind, total, factor * values[cell])
    return total


def many_cases(amount, kinds=KINDS):
    """Tables, lost cells and each of these."""
    for kind in kinds:
        for table in [formed(form, kind) for form in FORMS] + [places(kind, 5), widest(kind)]:
            for lost in some_losses(table, amount, str(kind)):
                yield table, lost


class Recipes(Case):
    def assert_form(self, table, lost, told):
        self.assert_plain(told)
        self.assertEqual((type(told), len(told)), (tuple, 2))
        divisor, factors = told
        self.assertIn(divisor, (1, 2) if table.kind == "plain" else (1,))
        self.assertIs(type(divisor), int)
        self.assertIs(type(factors), tuple)
        self.assertTrue(all(type(pair) is tuple and len(pair) == 2 for pair in factors))
        used = [cell for cell, _ in factors]
        self.assertEqual(used, [cell for cell in table.cells if cell in used])
        self.assertFalse(set(used) & set(lost))
        for _, factor in factors:
            self.assertIs(type(factor), int)
            self.assertNotEqual(factor, 0)
            if table.kind != "plain":
                self.assertTrue(1 <= factor < (2 if table.kind == "bits" else table.kind))

    def assert_gives(self, table, cell, told):
        divisor, factors = told
        for values in several_values(table):
            cells = dict(zip(table.cells, table.full(values)))
            self.assertEqual(worth(table.kind, factors, cells), divisor * cells[cell], (str(table), cell, told))

    def test_none_or_right(self):
        for table, lost in many_cases(4):
            told_back = back(table, lost)
            for cell in lost:
                told = recipe(table, lost, cell)
                self.assertIs(told is None, cell not in told_back)
                if told is not None:
                    self.assert_form(table, lost, told)
                    self.assert_gives(table, cell, told)

    def test_divisor_two(self):
        lost = tuple(("datum", number) for number in (2, 1, 0))
        for kind in ["plain", 3, 5, 7, 999999999]:
            table = formed("ring of three", kind)
            for number in range(3):
                divisor, factors = recipe(table, lost, ("datum", number))
                self.assertEqual(divisor, 2 if kind == "plain" else 1)
                half = 1 if kind == "plain" else (kind + 1) // 2
                pair = table.data[number]
                expected = [(("sum", name), half if name in pair else -half) for name in table.sums]
                if kind != "plain":
                    expected = [(cell, factor % kind) for cell, factor in expected]
                self.assertEqual(factors, tuple(expected))

    def test_the_order_of_the_cells(self):
        # The datum is told by the sum b and two data that stand before and behind it.
        table = Table("plain", (("x", (), (("b", "c"), ("a", "b"))), ("y", ("c", "b"), (("b", "d"),)),
                                ("z", ("a", "d"), ())))
        lost = (("sum", "a"), ("datum", 1))
        self.assertEqual(recipe(table, lost, ("datum", 1)),
                         (1, ((("datum", 0), -1), (("sum", "b"), 1), (("datum", 2), -1))))
        self.assertEqual(recipe(table, lost, ("sum", "a")),
                         (1, ((("datum", 0), -1), (("sum", "b"), 1), (("datum", 2), -1))))
        self.assertEqual(recipe(Table("bits", table.columns), lost, ("sum", "a")),
                         (1, ((("datum", 0), 1), (("sum", "b"), 1), (("datum", 2), 1))))
        self.assertEqual(recipe(Table(12, table.columns), lost, ("sum", "a")),
                         (1, ((("datum", 0), 11), (("sum", "b"), 1), (("datum", 2), 11))))

    def test_factors_of_two(self):
        # The datum of p and q that is left stands in both sums that tell the other one twice.
        table = Table("plain", (("x", ("p", "q", "r"), (("p", "q"), ("p", "q"), ("p", "r"), ("q", "r"))),))
        lost = (("datum", 0), ("datum", 2), ("datum", 3))
        told = recipe(table, lost, ("datum", 2))
        self.assert_form(table, lost, told)
        self.assert_gives(table, ("datum", 2), told)
        self.assertEqual(told, (2, ((("sum", "p"), 1), (("sum", "q"), -1), (("sum", "r"), 1))))
        told = recipe(table, lost, ("datum", 0))
        self.assertEqual(told, (2, ((("sum", "p"), 1), (("sum", "q"), 1), (("sum", "r"), -1), (("datum", 1), -2))))
        for kind in [3, 5]:
            dial = Table(kind, table.columns)
            for cell in lost:
                self.assert_form(dial, lost, recipe(dial, lost, cell))
                self.assert_gives(dial, cell, recipe(dial, lost, cell))

    def test_without_cells(self):
        for kind in KINDS:
            for cell in [("sum", "p"), ("sum", "q")]:
                self.assertEqual(recipe(formed("no data", kind), (("sum", "q"), ("sum", "p")), cell), (1, ()))

    def test_any_order_and_by_name(self):
        for kind in ["bits", "plain", 9]:
            table = places(kind, 5)
            lost = (("sum", "b"), ("datum", 0), ("sum", "a"), ("datum", 1))
            for cell in lost:
                told = {recipe(table, order, cell) for order in itertools.permutations(lost)}
                self.assertEqual(told, {recipe(cell=cell, table=Table.read(str(table)), lost=lost)})
            self.assertEqual(table, places(kind, 5))

    def test_example(self):
        three = (("datum", 1), ("datum", 3), ("datum", 5))
        self.assertEqual(recipe(places("plain", 5), three, ("datum", 1))[0], 2)
        self.assertIsNone(recipe(places("bits", 5), three, ("datum", 3)))


class Changes(Case):
    def changed(self, kind, values, told):
        return tuple(put(kind, value, step) for value, step in zip(values, told))

    def assert_form(self, table, lost, told):
        self.assert_plain(told)
        self.assertEqual((type(told), len(told)), (tuple, len(table.data)))
        low, high = {"bits": (0, 1), "plain": (-2, 2)}.get(table.kind) or (0, table.kind - 1)
        for number, step in enumerate(told):
            self.assertIs(type(step), int)
            self.assertTrue(low <= step <= high, (str(table), lost, told))
            self.assertTrue(step == 0 or ("datum", number) in lost)

    def assert_hidden(self, table, lost, cell, told):
        # A change that is hidden is so for all data values alike; each fourth of these will do.
        for values in list(several_values(table))[::4]:
            if table.kind == "plain":
                # Within the bounds before and behind the change.
                values = tuple(max(-10 ** 30 + 2, min(10 ** 30 - 2, value)) for value in values)
            before = dict(zip(table.cells, table.full(values)))
            behind = dict(zip(table.cells, table.full(self.changed(table.kind, values, told))))
            self.assertNotEqual(before[cell], behind[cell], (str(table), lost, cell, told))
            for other in table.cells:
                if other not in lost:
                    self.assertEqual(before[other], behind[other], (str(table), lost, cell, told))

    def test_none_or_hidden(self):
        for table, lost in many_cases(5):
            told_back = back(table, lost)
            for cell in lost:
                told = change(table, lost, cell)
                self.assertIs(told is None, cell in told_back)
                if told is not None:
                    self.assert_form(table, lost, told)
                    self.assert_hidden(table, lost, cell, told)

    def test_tables_with_all_their_lines_lost(self):
        chance = random.Random(11)
        for _ in range(120):
            sums = "pqrstuvw"[:chance.randint(3, 8)]
            pairs = [tuple(sorted(chance.sample(sums, 2))) for _ in range(chance.randint(1, 10))]
            kind = chance.choice(["bits", "plain", "plain", 3, 4, 4, 6, 5, 10 ** 9])
            table = Table(kind, (("one", tuple(sums), tuple(pairs)),))
            lost = tuple(("datum", number) for number in range(len(pairs)))
            lost = lost + tuple(("sum", name) for name in chance.sample(sums, chance.randint(0, 2)))
            for cell in lost:
                told = change(table, lost, cell)
                self.assertIs(told is None, cell in back(table, lost))
                if told is not None:
                    self.assert_form(table, lost, told)
                    self.assert_hidden(table, lost, cell, told)

    def test_named(self):
        three = tuple(("datum", number) for number in range(3))
        self.assertEqual(change(formed("ring of three", "bits"), three, ("datum", 1)), (1, 1, 1))
        for dial in [4, 6, 12, 10 ** 9]:
            # Around an even dial its half is its own opposite, and nothing else can be put to a ring of three.
            half = dial // 2
            self.assertEqual(change(formed("ring of three", dial), three, ("datum", 1)), (half, half, half))
        for kind in ["plain", 3, 9]:
            self.assertIsNone(change(formed("ring of three", kind), three, ("datum", 1)))
        both = (("datum", 0), ("sum", "p"), ("sum", "q"))
        for kind in KINDS:
            told = change(formed("one datum", kind), both, ("sum", "q"))
            self.assertEqual(len(told), 1)
            self.assertNotEqual(told, (0,))

    def test_two_is_needed(self):
        # A line between two rings of three: only twice a number can be put to it.
        sums, pairs = tuple("pqrstu"), (("p", "q"), ("p", "r"), ("q", "r"), ("r", "s"), ("s", "t"), ("s", "u"),
                                        ("t", "u"))
        lost = tuple(("datum", number) for number in range(7))
        table = Table("plain", (("one", sums, pairs),))
        told = change(table, lost, ("datum", 3))
        self.assert_form(table, lost, told)
        self.assert_hidden(table, lost, ("datum", 3), told)
        self.assertEqual(abs(told[3]), 2)
        for dial in [3, 4, 5, 6]:
            around = Table(dial, table.columns)
            self.assert_form(around, lost, change(around, lost, ("datum", 3)))
            self.assert_hidden(around, lost, ("datum", 3), change(around, lost, ("datum", 3)))
        self.assertIsNone(change(Table("bits", table.columns), lost, ("datum", 3)))

    def test_any_order_and_by_name(self):
        for kind in ["bits", "plain", 12]:
            table = places(kind, 5)
            lost = (("datum", 0), ("sum", "c"), ("datum", 1), ("sum", "a"), ("datum", 4))
            for cell in lost:
                told = {change(table, order, cell) for order in itertools.permutations(lost)}
                self.assertEqual(told, {change(cell=cell, table=Table.read(str(table)), lost=lost)})
            self.assertEqual(table, places(kind, 5))

    def test_examples(self):
        three = (("datum", 1), ("datum", 3), ("datum", 5))
        self.assertEqual(change(places("bits", 5), three, ("datum", 3)), (0, 1, 0, 1, 0, 1))
        self.assertEqual(change(places(12, 5), three, ("datum", 3)), (0, 6, 0, 6, 0, 6))
        self.assertIsNone(change(places("plain", 5), three, ("datum", 3)))

    def test_tables_of_the_kit(self):
        for table in tables():
            self.assertEqual([change(table, (cell,), cell) for cell in table.cells], [None] * len(table.cells))

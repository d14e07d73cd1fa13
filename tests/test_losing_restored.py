"""What is restored, and what cannot be right: point [9] and the interface, `restored`."""

import itertools
import random

from pairsums.errors import InvalidCells, InvalidLost, NoAnswer, NotATable, NotRight
from pairsums.losing import back, restored
from pairsums.tables import Table
from tests.kit import FORMS, KINDS, Case, formed, places, some_losses, tables, widest
from tests.search import can_be_right, lost_data
from tests.test_losing_recipes import several_values

THREE = tuple(("datum", number) for number in range(3))


def other_values(table, chance):
    """Any valid cell values."""
    most = {"bits": (0, 2 ** 60 - 1), "plain": (-10 ** 30, 10 ** 30)}.get(table.kind) or (0, table.kind - 1)
    sums = (-10 ** 32, 10 ** 32) if table.kind == "plain" else most
    return [chance.choice([chance.randint(*bounds), *bounds])
            for bounds in [sums if what == "sum" else most for what, _ in table.cells]]


class Restored(Case):
    def assert_restored(self, table, lost, cells, chance):
        """Whatever stands in the places of the lost cells, what comes back is right, and the rest as it was."""
        told_back = back(table, lost)
        expected = tuple(None if cell in lost and cell not in told_back else value
                         for cell, value in zip(table.cells, cells))
        for _ in range(3):
            others = other_values(table, chance)
            passed = tuple(other if cell in lost else value
                           for cell, value, other in zip(table.cells, cells, others))
            told = restored(table, lost, passed)
            self.assertEqual(told, expected, (str(table), lost, passed))
            self.assert_plain(told)

    def test_all_that_comes_back(self):
        chance = random.Random(3)
        for kind in KINDS:
            for table in [formed(form, kind) for form in FORMS] + [places(kind, 5), widest(kind)]:
                all_values = [table.full(values) for values in several_values(table)]
                for lost in some_losses(table, 6, str(kind)):
                    for cells in chance.sample(all_values, min(3, len(all_values))):
                        self.assert_restored(table, lost, cells, chance)

    def test_no_cells_lost(self):
        for table in tables():
            for values in several_values(table):
                self.assertEqual(restored(table, (), table.full(values)), table.full(values))

    def test_all_cells_lost(self):
        for table in tables():
            cells = table.full((0,) * len(table.data))
            lone = [all(which not in pair for pair in table.data) if what == "sum" else False
                    for what, which in table.cells]
            wrong = tuple(1 for _ in table.cells)
            for passed in [cells, wrong]:
                self.assertEqual(restored(table, table.cells, passed), tuple(0 if is_lone else None
                                                                             for is_lone in lone))

    def test_example_and_names(self):
        five = places("bits", 5)
        lost = (("sum", "a"), ("datum", 0), ("sum", "b"), ("datum", 1))
        cells = (0, 0, 0, 0, 5, 3, 7, 4, 5, 6)
        self.assertEqual(restored(five, lost, cells), (3, 1, 1, 2, 5, 3, 7, 4, 5, 6))
        self.assertEqual(restored(cells=cells, lost=lost[::-1], table=five), restored(five, lost, cells))
        self.assertEqual((str(five), cells), (str(places("bits", 5)), (0, 0, 0, 0, 5, 3, 7, 4, 5, 6)))

    def test_beyond_the_bounds_in_plain(self):
        # Right values of data may be beyond 10 ** 30 here, and those of sums beyond 10 ** 32.
        star = formed("star", "plain")
        self.assertEqual(star.cells, (("sum", "t"), ("sum", "p"), ("datum", 0), ("datum", 1), ("datum", 2),
                                      ("datum", 3), ("sum", "q"), ("sum", "r"), ("sum", "s")))
        most, data = 10 ** 32, tuple(("datum", number) for number in range(4))
        self.assertEqual(restored(star, (*data, ("sum", "p")), (most, 0, 0, 0, 0, 0, most, most, -most)),
                         (most, 2 * most, most, most, -most, most, most, most, -most))
        self.assertEqual(restored(star, (*data, ("sum", "t")), (0, most, 1, 2, 3, 4, -most, -most, 1)),
                         (3 * most - 1, most, -most, -most, 1, 3 * most - 1, -most, -most, 1))

    def test_twice_a_datum(self):
        ring = formed("ring of three", "plain")
        self.assertEqual(ring.cells, (("sum", "p"), ("datum", 0), ("datum", 1), ("datum", 2), ("sum", "q"),
                                      ("sum", "r")))
        self.assertEqual(restored(ring, THREE, (-1, 0, 0, 0, 6, 3)), (-1, 1, -2, 5, 6, 3))
        dial = formed("ring of three", 9)
        # 2, 4 and 3 with 9 more make twice the data: 3 is twice 6 there.
        self.assertEqual(restored(dial, THREE, (2, 0, 0, 0, 4, 3)), (2, 6, 5, 7, 4, 3))


class NotRightAtAll(Case):
    def assert_not_right(self, table, lost, cells):
        with self.assertRaises(NotRight) as held:
            restored(table, lost, cells)
        self.assertIs(type(held.exception), NotRight)
        self.assertIsInstance(held.exception, NoAnswer)

    def assert_like_search(self, table, lost, cells, numbers):
        if can_be_right(table, lost, cells, numbers):
            told = restored(table, lost, cells)
            told_back = back(table, lost)
            for cell, value, passed in zip(table.cells, told, cells):
                self.assertEqual(value is None, cell in lost and cell not in told_back)
                self.assertTrue(cell in lost or value == passed)
        else:
            self.assert_not_right(table, lost, cells)

    def test_like_a_search(self):
        chance = random.Random(9)
        # The numbers are enough for sums of 0 to 2 and three lost data in them.
        for kind, numbers in [("bits", range(4)), (3, range(3)), (4, range(4)), ("plain", range(-9, 10))]:
            for form in FORMS:
                table = formed(form, kind)
                for lost in some_losses(table, 25, form):
                    if len(lost_data(lost)) <= 3:
                        cells = tuple(chance.randint(0, 2) for _ in table.cells)
                        self.assert_like_search(table, lost, cells, numbers)
                        near = list(table.full(tuple(chance.randint(0, 2) for _ in table.data)))
                        near[chance.randrange(len(near))] = chance.randint(0, 2)
                        self.assert_like_search(table, lost, tuple(near), numbers)

    def test_each_wrong_sum_alone(self):
        for table in tables():
            right = table.full((1,) * len(table.data))
            for at, (what, _) in enumerate(table.cells):
                wrong = right[:at] + (right[at] + (1 if right[at] == 0 else -1),) + right[at + 1:]
                self.assert_not_right(table, (), wrong)
                # It is right as soon as the wrong cell is lost.
                self.assertEqual(restored(table, (table.cells[at],), wrong), right)

    def test_an_odd_number_for_twice_a_datum(self):
        for cells in itertools.product((-1, 0, 1, 2), repeat=3):
            for kind in ["plain", 4, 6, 10 ** 9]:
                fitted = cells if kind == "plain" else tuple(value % kind for value in cells)
                passed = (fitted[0], 0, 1, 0, fitted[1], fitted[2])
                table = formed("ring of three", kind)
                if sum(cells) % 2:
                    self.assert_not_right(table, THREE, passed)
                else:
                    told = restored(table, THREE, passed)
                    self.assertEqual([told[0], *told[4:]], list(fitted))
            # On odd dials each number is twice another one, so that there are always right values.
            for kind in [3, 5, 999999999]:
                fitted = tuple(value % kind for value in cells)
                told = restored(formed("ring of three", kind), THREE, (fitted[0], 0, 1, 0, fitted[1], fitted[2]))
                self.assertTrue(formed("ring of three", kind).is_right(told))
            # In bits each bit stands in two of the three sums.
            fitted = tuple(abs(value) for value in cells)
            passed = (fitted[0], 0, 1, 0, fitted[1], fitted[2])
            if fitted[0] ^ fitted[1] ^ fitted[2]:
                self.assert_not_right(formed("ring of three", "bits"), THREE, passed)
            else:
                self.assertEqual(restored(formed("ring of three", "bits"), THREE, passed),
                                 (fitted[0], None, None, None, fitted[1], fitted[2]))

    def test_odd_in_parts_that_do_not_come_back(self):
        # Two rings of three in one sum: nothing comes back on even dials, but all sums together are even.
        data = tuple(("datum", number) for number in range(6))
        for kind in ["plain", 4, 10 ** 9]:
            table = formed("two rings in one sum", kind)
            sums = [at for at, (what, _) in enumerate(table.cells) if what == "sum"]
            for at in sums:
                cells = [0] * len(table.cells)
                cells[at] = 1
                self.assert_not_right(table, data, tuple(cells))
                cells[at] = 2
                self.assertEqual(restored(table, data, tuple(cells))[at], 2)

    def test_two_sides_that_differ(self):
        data = tuple(("datum", number) for number in range(4))
        for kind in KINDS:
            table = formed("ring of four", kind)
            self.assertEqual(table.cells, (("sum", "p"), ("sum", "q"), *data, ("sum", "r"), ("sum", "s")))
            self.assertEqual(restored(table, data, (2, 1, 0, 0, 0, 0, 1, 2)), (2, 1, *[None] * 4, 1, 2))
            self.assertEqual(restored(table, data, (2, 2, 0, 0, 0, 0, 1, 1)), (2, 2, *[None] * 4, 1, 1))
            self.assert_not_right(table, data, (2, 1, 0, 0, 0, 0, 1, 1))
            self.assert_not_right(table, data, (1, 0, 0, 0, 0, 0, 0, 0))
            # With a stub anything can be right, and a sum that is lost has no value that is wrong.
            self.assertEqual(restored(table, (*data, ("sum", "p")), (2, 1, 0, 0, 0, 0, 1, 1)),
                             (1, 1, *[None] * 4, 1, 1))
            self.assertEqual(restored(table, (*data, ("sum", "p"), ("sum", "q")), (2, 1, 0, 0, 0, 0, 1, 1)),
                             (None, None, *[None] * 4, 1, 1))

    def test_sums_without_lost_data(self):
        for kind in KINDS:
            table = formed("alone", kind)
            self.assertEqual(table.cells, (("sum", "p"), ("datum", 0), ("sum", "q"), ("sum", "r")))
            self.assert_not_right(table, (), (1, 1, 1, 1))
            self.assert_not_right(table, (("datum", 0), ("sum", "p")), (1, 1, 1, 1))
            self.assert_not_right(table, (("datum", 0),), (1, 1, 2, 0))
            self.assertEqual(restored(table, (("datum", 0), ("sum", "p")), (2, 2, 1, 0)), (1, 1, 1, 0))
            self.assertEqual(restored(table, (("sum", "r"),), (1, 1, 1, 1)), (1, 1, 1, 0))
            empty = formed("no data", kind)
            self.assert_not_right(empty, (("sum", "p"),), (0, 1))
            self.assertEqual(restored(empty, (("sum", "p"),), (1, 0)), (0, 0))

    def test_beyond_the_bounds_in_plain(self):
        table = formed("one datum", "plain")
        self.assertEqual(table.cells, (("sum", "p"), ("datum", 0), ("sum", "q")))
        most = 10 ** 32
        self.assertEqual(restored(table, (("datum", 0),), (most, 0, most)), (most, most, most))
        self.assert_not_right(table, (("datum", 0),), (most, 0, most - 1))
        self.assert_not_right(table, (("datum", 0),), (most, 0, -most))

    def test_behind_all_other_errors(self):
        table = formed("alone", "plain")
        wrong = (1, 1, 1, 1)
        self.assert_not_right(table, (), wrong)
        self.assert_told(NotATable, None, restored, None, (), wrong)
        self.assert_told(InvalidLost, 1, restored, table, (("datum", 0), ("datum", 1)), wrong)
        self.assert_told(InvalidCells, 3, restored, table, (), (1, 1, 1, None))
        # Also what stands in the places of lost cells is looked at.
        self.assert_told(InvalidCells, 1, restored, table, (("datum", 0),), (1, None, 2, 0))
        self.assert_told(InvalidCells, 1, restored, table, (("datum", 0),), (1, 10 ** 30 + 1, 2, 0))
        self.assert_told(InvalidCells, 3, restored, table, (("sum", "r"),), (1, 1, 2, 10 ** 32 + 1))
        dial = formed("alone", 12)
        self.assert_told(InvalidCells, 1, restored, dial, (("datum", 0),), (1, 12, 2, 0))
        self.assert_told(InvalidCells, 1, restored, Table("bits", table.columns), (("datum", 0),), (1, -1, 2, 0))

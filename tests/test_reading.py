"""Reading a lost column back: point [17] and the interface, "pairsums/reading.py"."""

import itertools
import random

from pairsums.columns import columns_back
from pairsums.reading import fewest_reads, reading
from pairsums.tables import Table
from tests.kit import FORMS, KINDS, LETTERS, Case, formed, places, side, tables, widest
from tests.test_tables_values import some_values


def standing_in(table, name):
    """The cells that stand in a sum."""
    return {("sum", name)} | {("datum", number) for number, pair in enumerate(table.data) if name in pair}


def reads_of(table, lost, steps):
    """The reads of steps, None if they cannot be done in this order."""
    missing = set(lost)
    found = set()
    for cell, name in steps:
        others = standing_in(table, name) - {cell}
        if others & missing or cell not in standing_in(table, name):
            return None
        found |= others - set(lost)
        missing -= {cell}
    return None if missing else found


def fewest_by_search(table, name):
    """The least number of reads, told by all choices of sums and all orders of the steps."""
    lost = table.cells_of(name)
    sums = [(which,) if what == "sum" else table.data[which] for what, which in lost]
    found = []
    for chosen in itertools.product(*sums):
        for steps in itertools.permutations(list(zip(lost, chosen))):
            reads = reads_of(table, lost, steps)
            if reads is not None:
                found.append(len(reads))
                break
    return min(found, default=None)


def chance_tables(many, seed):
    """Tables of few sums, whose data stand in any columns, those of one column often in the same sums."""
    chance = random.Random(seed)
    for _ in range(many):
        sums = LETTERS[:chance.randint(2, 6)]
        pairs = list(itertools.combinations(sums, 2))
        columns = [("c" + LETTERS[at], [], []) for at in range(chance.randint(2, 4))]
        for name in sums:
            chance.choice(columns)[1].append(name)
        for _ in range(chance.randint(0, 7)):
            column = chance.choice(columns)
            if len(column[1]) + len(column[2]) < 5:
                column[2].append(chance.choice(pairs))
        yield Table(chance.choice(KINDS), tuple((name, tuple(own), tuple(data)) for name, own, data in columns))


def value_from(table, cell, name, values):
    """The value of a cell, told from one sum by the values of all other cells that stand in it."""
    others = [values[other] for other in standing_in(table, name) - {cell} if other[0] == "datum"]
    if table.kind == "bits":
        mixed = 0
        for value in others:
            mixed ^= value
        return mixed if cell[0] == "sum" else mixed ^ values["sum", name]
    told = sum(others) if cell[0] == "sum" else values["sum", name] - sum(others)
    return told if table.kind == "plain" else told % table.kind


class Reading(Case):
    def assert_reading(self, table, name, fewest):
        """That the steps are as many as are right, can be done, and have so many reads."""
        steps = reading(table, name)
        self.assertEqual(fewest_reads(table, name), fewest)
        self.assertIs(steps is None, fewest is None)
        if fewest is None:
            return
        self.assertIs(type(fewest_reads(table, name)), int)
        self.assert_plain(steps)
        self.assertTrue(all(len(step) == 2 for step in steps))
        lost = table.cells_of(name)
        self.assertEqual(sorted(map(repr, lost)), sorted(repr(cell) for cell, _ in steps))
        self.assertEqual(len(reads_of(table, lost, steps)), fewest)
        self.assertIs(columns_back(table, (name,)), True)
        self.assert_values_back(table, name, steps)

    def assert_values_back(self, table, name, steps):
        """That the steps give the column its values."""
        for values in some_values(table):
            full = dict(zip(table.cells, table.full(values)))
            held = {cell: value for cell, value in full.items() if cell not in table.cells_of(name)}
            for cell, word in steps:
                held[cell] = value_from(table, cell, word, held)
            self.assertEqual(held, full)

    def test_like_a_search(self):
        found = list(chance_tables(400, 1))
        for kind in ["bits", "plain", 3, 6]:
            found.extend(formed(form, kind) for form in FORMS)
        found.extend(table for table in tables() if len(table.columns) < 8)
        some = set()
        for table in found:
            for name in table.names:
                fewest = fewest_by_search(table, name)
                self.assert_reading(table, name, fewest)
                some.add(fewest)
        self.assertLessEqual({None, *range(8)}, some)

    def test_rounds(self):
        for kind in ["bits", "plain", 5, 12]:
            for prime, most in [(3, 3), (5, 5), (7, 14)]:
                table = places(kind, prime)
                for name in table.names:
                    fewest = fewest_by_search(table, name)
                    self.assertIsNotNone(fewest)
                    self.assertLessEqual(fewest, most)
                    self.assert_reading(table, name, fewest)

    def test_widest(self):
        for kind in KINDS:
            table = widest(kind)
            for name in table.names:
                if len(table.cells_of(name)) < 6:
                    self.assert_reading(table, name, fewest_by_search(table, name))
                self.assertIs(reading(table, name) is None, fewest_reads(table, name) is None)

    def test_kinds_make_no_difference(self):
        for form in FORMS:
            for name in ("one", "none", "two", "three"):
                told = {fewest_reads(formed(form, kind), name) for kind in KINDS}
                self.assertEqual(len(told), 1)

    def test_columns_without_cells(self):
        for kind in KINDS:
            table = Table(kind, (("a", (), ()), ("b", ("p", "q"), (("p", "q"),))))
            self.assertEqual(fewest_reads(table, "a"), 0)
            self.assertIs(type(fewest_reads(table, "a")), int)
            self.assertEqual(reading(table, "a"), ())

    def test_columns_without_data(self):
        table = Table("bits", (("a", ("p", "q", "s"), ()), ("b", ("r",), (("p", "q"), ("p", "r"), ("q", "r")))))
        self.assert_reading(table, "a", 3)
        self.assertEqual(set(reading(table, "a")), {(("sum", "p"), "p"), (("sum", "q"), "q"), (("sum", "s"), "s")})
        alone = Table("plain", (("a", ("s",), ()),))
        self.assert_reading(alone, "a", 0)
        self.assertEqual(reading(alone, "a"), ((("sum", "s"), "s"),))

    def test_columns_without_sums(self):
        for kind in KINDS:
            table = Table(kind, (("a", (), (("p", "q"),)), ("b", ("p", "q"), (("p", "r"), ("p", "r"))),
                                 ("c", ("r",), ())))
            # The sum p would need two data more.
            self.assert_reading(table, "a", 1)
            self.assertEqual(reading(table, "a"), ((("datum", 0), "q"),))

    def test_both_sums_of_a_datum_in_the_column(self):
        for kind in KINDS:
            table = Table(kind, (("a", ("p", "q"), (("p", "q"),)), ("b", ("r",), (("p", "r"),))))
            self.assert_reading(table, "a", None)
            self.assert_reading(table, "b", 2)

    def test_two_data_of_the_same_sums(self):
        for kind in KINDS:
            table = Table(kind, (("a", (), (("p", "q"), ("p", "q"))), ("b", ("p",), ()), ("c", ("q",), ())))
            self.assert_reading(table, "a", None)
            self.assert_reading(table, "b", 2)
            # One of them alone can be read.
            table = Table(kind, (("a", (), (("p", "q"),)), ("b", ("p",), (("p", "q"),)), ("c", ("q",), ())))
            self.assert_reading(table, "a", 2)
            self.assert_reading(table, "b", 2)

    def test_a_ring_comes_back_in_plain_but_is_not_read(self):
        for kind in ["plain", 3]:
            table = Table(kind, (("a", (), (("p", "q"), ("p", "r"), ("q", "r"))), ("b", ("p", "q", "r"), ())))
            self.assertIs(columns_back(table, ("a",)), True)
            self.assert_reading(table, "a", None)

    def test_a_step_needs_what_an_earlier_one_brought_back(self):
        # A line p q r s of lost data: from one end to the other, or from both to the middle.
        for kind in KINDS:
            table = Table(kind, (("a", (), (("p", "q"), ("q", "r"), ("r", "s"))), ("b", ("p", "q", "r", "s"), ())))
            self.assert_reading(table, "a", 3)
            table = Table(kind, (("a", ("p",), (("q", "r"), ("p", "q"), ("r", "s"))), ("b", ("q", "r", "s"), ())))
            self.assert_reading(table, "a", 3)
            self.assertEqual(reading(table, "a"), ((("datum", 2), "s"), (("datum", 0), "r"), (("datum", 1), "q"),
                                                   (("sum", "p"), "p")))

    def test_a_read_counts_once(self):
        # The datum that is left stands in both sums.
        table = Table("bits", (("a", (), (("p", "r"), ("q", "s"))), ("b", ("r", "s"), (("p", "q"),)),
                               ("c", ("p", "q"), (("r", "t"), ("r", "t"), ("s", "t"), ("s", "t"))), ("d", ("t",), ())))
        self.assert_reading(table, "a", 3)

    def test_ten_data_in_ten_sums(self):
        names = LETTERS[:10]
        ring = tuple(zip(names, names[1:]))
        table = Table("bits", (("a", (), ring), ("b", tuple(names), ())))
        self.assert_reading(table, "a", 9)
        table = Table("bits", (("a", (), ring + (("a", "j"),)), ("b", tuple(names), ())))
        self.assert_reading(table, "a", None)
        table = Table("bits", (("a", (), tuple(itertools.combinations(names, 2))[:24]), ("b", tuple(names), ())))
        self.assert_reading(table, "a", None)
        star = tuple(("a", name) for name in names[1:])
        more = tuple(itertools.combinations(names[1:], 2))[:15]
        table = Table("plain", (("a", (), star), ("b", tuple(names), more)))
        self.assert_reading(table, "a", min(9 + 15, 10 + 15))

    def test_by_name(self):
        self.assertEqual(fewest_reads(name="far", table=side()), 2)
        self.assertEqual(reading(name="right", table=side()), ((("sum", "q"), "q"),))

    def test_equal_calls(self):
        for table in tables():
            for name in table.names:
                self.assertEqual(reading(table, name), reading(Table.read(str(table)), name))

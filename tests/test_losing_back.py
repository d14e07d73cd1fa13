"""Which lost cells come back: points [9] and [10], `comes_back` and `back`."""

import itertools
import random

from pairsums.losing import back, comes_back
from pairsums.tables import Table
from tests.kit import FORMS, KINDS, Case, all_losses, formed, places, some_losses, tables, widest
from tests.search import back_by_elimination, back_by_search, lost_data


class BySearch(Case):
    def assert_like_search(self, table, lost, search):
        expected = search(table, lost)
        self.assertEqual(back(table, lost), expected, (str(table), lost))
        self.assertIs(comes_back(table, lost), len(expected) == len(lost), (str(table), lost))

    def test_small_tables_with_all_sets_of_lost_cells(self):
        for form in FORMS:
            for kind in ["bits", "plain", 3, 4]:
                table = formed(form, kind)
                losses = list(all_losses(table))
                for lost in losses if len(losses) <= 128 else losses[::7]:
                    self.assert_like_search(table, lost, back_by_search)

    def test_small_tables_with_lost_cells_in_any_order(self):
        for form in FORMS:
            for kind in ["bits", "plain", 3, 4, 5, 6]:
                table = formed(form, kind)
                for lost in some_losses(table, 12, kind):
                    if len(lost_data(lost)) < 5 or kind in ("bits", 3):
                        self.assert_like_search(table, lost, back_by_search)

    def test_rounds_of_six_places(self):
        for kind in ["bits", "plain", 3, 4, 5, 6]:
            table = places(kind, 5)
            for lost in some_losses(table, 40, kind):
                if len(lost_data(lost)) < 5 or kind == "bits":
                    self.assert_like_search(table, lost, back_by_search)

    def test_greater_tables_by_elimination(self):
        for kind in ["bits", "plain", 3, 5, 7, 999999937]:
            for table in [places(kind, 7), widest(kind)]:
                for lost in some_losses(table, 60, kind):
                    self.assert_like_search(table, lost, back_by_elimination)

    def test_tables_drawn_at_random(self):
        chance = random.Random(5)
        for _ in range(150):
            sums = "pqrstu"[:chance.randint(2, 6)]
            pairs = list(itertools.combinations(sums, 2))
            data = tuple(chance.choice(pairs) for _ in range(chance.randint(0, 9)))
            for kind in ["bits", "plain", 3, 7]:
                table = Table(kind, (("one", (), data[:4]), ("two", tuple(sums), data[4:])))
                for lost in some_losses(table, 4, len(data)):
                    self.assert_like_search(table, lost, back_by_elimination)


class Named(Case):
    def assert_kinds(self, form, lost, expected, words):
        """Of the lost cells these come back with the kinds of the words, and none with the others."""
        for kind in KINDS:
            word = kind if isinstance(kind, str) else ("odd" if kind % 2 else "even")
            table = formed(form, kind)
            told = expected if word in words else ()
            self.assertEqual(back(table, lost), told, (form, kind))
            self.assertIs(comes_back(table, lost), len(told) == len(lost))

    def all_words(self):
        return ("bits", "even", "odd", "plain")

    def test_no_cells_and_all_cells(self):
        for table in tables():
            self.assertEqual(back(table, ()), ())
            self.assertIs(comes_back(table, ()), True)
            without_data = not table.data
            empty = tuple(("sum", name) for name in table.sums if all(name not in pair for pair in table.data))
            self.assertEqual(back(table, table.cells), empty)
            self.assertIs(comes_back(table, table.cells), without_data)

    def test_one_cell_always_comes_back(self):
        for table in tables():
            for cell in table.cells:
                self.assertEqual(back(table, (cell,)), (cell,))

    def test_both_sums_lost(self):
        lost = (("datum", 0), ("sum", "q"), ("sum", "p"))
        self.assert_kinds("one datum", lost, (), self.all_words())
        self.assert_kinds("alone", (*lost, ("sum", "r")), (("sum", "r"),), self.all_words())

    def test_sums_without_data(self):
        self.assert_kinds("no data", (("sum", "q"), ("sum", "p")), (("sum", "p"), ("sum", "q")), self.all_words())
        self.assert_kinds("alone", (("sum", "r"),), (("sum", "r"),), self.all_words())

    def test_several_data_of_one_pair(self):
        both = (("datum", 1), ("datum", 0))
        self.assert_kinds("two of the same", both, (), self.all_words())
        self.assert_kinds("three of the same", both, (), self.all_words())
        self.assert_kinds("two of the same", (("sum", "q"), ("datum", 1)), (("datum", 1), ("sum", "q")),
                          self.all_words())

    def test_rings(self):
        self.assert_kinds("ring of three", tuple(("datum", number) for number in range(3)),
                          (("datum", 0), ("datum", 1), ("datum", 2)), ("odd", "plain"))
        self.assert_kinds("ring of five", tuple(("datum", number) for number in range(4, -1, -1)),
                          tuple(("datum", number) for number in range(5)), ("odd", "plain"))
        self.assert_kinds("ring of four", tuple(("datum", number) for number in range(4)), (), self.all_words())

    def test_a_tail_at_a_ring(self):
        data = tuple(("datum", number) for number in range(5))
        for kind in KINDS:
            # At a ring of three the tail comes back from its end in all kinds; the ring itself not in all.
            told = back(formed("ring of three with a tail", kind), data)
            odd_or_plain = kind == "plain" or kind != "bits" and kind % 2 == 1
            self.assertEqual(told, data if odd_or_plain else data[3:])
            # At a ring of four the tail comes back as well, the ring in no kind.
            self.assertEqual(back(formed("ring of four with a tail", kind), data), data[4:])

    def test_rings_with_stubs(self):
        data = tuple(("datum", number) for number in range(3))
        self.assert_kinds("ring of three", (("sum", "r"), ("datum", 0), ("datum", 1)),
                          (("datum", 0), ("datum", 1), ("sum", "r")), self.all_words())
        # All data and one sum: in bits the sum is the exclusive or of the other two, elsewhere nothing is told.
        self.assert_kinds("ring of three", (*data, ("sum", "p")), (("sum", "p"),), ("bits",))
        self.assert_kinds("ring of three", (*data, ("sum", "p"), ("sum", "q")), (), self.all_words())
        # The sum s is lost, and so the datum of r and s is a stub of the ring; in bits the ring tells it.
        tail = (*data, ("datum", 3), ("sum", "s"))
        self.assert_kinds("ring of three with a tail", tail, (("datum", 3), ("sum", "s")), ("bits",))
        # With two stubs it does not.
        self.assert_kinds("ring of three with a tail", (*tail, ("sum", "p")), (), self.all_words())
        # A ring of four tells its stub in all kinds, and a stub at t alone is told by t.
        data = tuple(("datum", number) for number in range(5))
        self.assert_kinds("ring of four with a tail", (*data, ("sum", "t")), (("datum", 4), ("sum", "t")),
                          self.all_words())
        # A sum in a ring of four is told by the other three, two of them without one datum more.
        self.assert_kinds("ring of four with a tail", (*data, ("sum", "p")), (("sum", "p"), ("datum", 4)),
                          self.all_words())

    def test_stars(self):
        data = tuple(("datum", number) for number in range(4))
        self.assert_kinds("star", data, data, self.all_words())
        order = formed("star", 3).cells
        lost = (*data, ("sum", "p"))
        self.assert_kinds("star", lost, tuple(cell for cell in order if cell in lost), self.all_words())
        lost = (*data, ("sum", "q"))
        self.assert_kinds("star", lost, tuple(cell for cell in order if cell in lost), self.all_words())


class Calls(Case):
    def test_any_order_is_the_same(self):
        for kind in ["bits", "plain", 3, 4]:
            table = places(kind, 5)
            for lost in [table.cells[1:6], table.cells[2:9:2], table.cells_of("ra") + table.cells_of("rb")]:
                told = {(back(table, order), comes_back(table, order)) for order in itertools.permutations(lost[:4])}
                self.assertEqual(len(told), 1)

    def test_by_position_and_by_name(self):
        table = places("plain", 5)
        lost = (("datum", 5), ("datum", 1))
        self.assertEqual(back(table, lost), (("datum", 1), ("datum", 5)))
        self.assertEqual(back(lost=lost, table=table), back(table, lost=lost))
        self.assertIs(comes_back(lost=lost, table=table), True)
        self.assertIs(comes_back(table, lost=lost), True)

    def test_equal_calls_and_no_changes(self):
        for table in tables():
            text = str(table)
            for lost in some_losses(table, 5):
                kept = tuple(lost)
                told = back(table, lost)
                self.assert_plain(told)
                self.assertEqual(back(Table.read(text), kept), told)
                self.assertEqual((str(table), lost), (text, kept))

"""With which kinds a cell comes back, and the parts of the lost data: point [10], `kinds_back` and `parts`."""

import itertools

from pairsums.losing import back, kinds_back, parts
from pairsums.tables import Table
from tests.kit import FORMS, Case, formed, places, some_losses, tables, widest

DIALS = {"even": (4, 6, 8, 12, 10 ** 9, 10 ** 9 - 2, 2 ** 29), "odd": (3, 5, 9, 15, 999999937, 10 ** 9 - 1)}


def data(*numbers):
    return tuple(("datum", number) for number in numbers)


def with_kind(table, kind):
    return Table(kind, table.columns)


class KindsBack(Case):
    def assert_like_back(self, table, lost):
        told = {"bits": back(with_kind(table, "bits"), lost), "plain": back(with_kind(table, "plain"), lost)}
        for word, dials in DIALS.items():
            each = [back(with_kind(table, dial), lost) for dial in dials]
            self.assertEqual(each, [each[0]] * len(dials))
            told[word] = each[0]
        for cell in lost:
            expected = tuple(word for word in sorted(told) if cell in told[word])
            self.assertEqual(kinds_back(table, lost, cell), expected, (str(table), lost, cell))

    def test_like_back_with_other_kinds(self):
        for form in FORMS:
            for lost in some_losses(formed(form, "bits"), 20):
                self.assert_like_back(formed(form, "bits"), lost)
        for lost in some_losses(widest(), 30):
            self.assert_like_back(widest(), lost)

    def test_whatever_kind_the_table_has(self):
        for lost in some_losses(places("bits", 5), 20):
            for cell in lost:
                told = {kinds_back(places(kind, 5), lost, cell) for kind in ["bits", "plain", 3, 4, 12, 10 ** 9]}
                self.assertEqual(len(told), 1)

    def test_all_sets_of_words_that_there_are(self):
        for kind in ["bits", "plain", 3, 4]:
            self.assertEqual(kinds_back(formed("ring of three", kind), data(2, 0, 1), ("datum", 2)), ("odd", "plain"))
            self.assertEqual(kinds_back(formed("ring of four", kind), data(0, 1, 2, 3), ("datum", 1)), ())
            self.assertEqual(kinds_back(formed("star", kind), data(0, 1, 2, 3), ("datum", 0)),
                             ("bits", "even", "odd", "plain"))
            lost = (("sum", "p"), *data(0, 1, 2))
            self.assertEqual(kinds_back(formed("ring of three", kind), lost, ("sum", "p")), ("bits",))
            # A ring of three that hangs at a ring of three: in bits alone each tells the line between.
            sums, pairs = tuple("pqrstu"), (("p", "q"), ("p", "r"), ("q", "r"), ("r", "s"), ("s", "t"), ("s", "u"),
                                            ("t", "u"))
            rings = Table(kind, (("one", sums, pairs),))
            self.assertEqual(kinds_back(rings, data(*range(7)), ("datum", 3)), ("bits",))

    def test_examples(self):
        five = places("bits", 5)
        self.assertEqual(kinds_back(five, data(1, 3, 5), ("datum", 5)), ("odd", "plain"))
        self.assertEqual(kinds_back(cell=("sum", "a"), lost=(("sum", "a"), ("datum", 0), ("datum", 5)), table=five),
                         ("bits", "even", "odd", "plain"))


def hanging(table, lost):
    """The parts, by joining the sums of each lost datum until nothing changes."""
    left = [name for name in table.sums if ("sum", name) not in lost]
    group = {name: name for name in left}
    pairs = {which: table.data[which] for what, which in lost if what == "datum"}
    for _ in left:
        for one, other in pairs.values():
            if one in group and other in group:
                group[one] = group[other] = min(group[one], group[other], key=left.index)
    found = []
    for first in left:
        names = tuple(name for name in left if group[name] == first)
        lines = tuple(number for number in sorted(pairs) if set(pairs[number]) & set(names))
        stubs = tuple(number for number in lines if not set(pairs[number]) <= set(names))
        if lines:
            found.append((names, lines, stubs))
    return tuple(found)


class Parts(Case):
    def test_examples(self):
        five = places("bits", 5)
        self.assertEqual(parts(five, data(1, 3, 5)), ((("a", "b", "c"), (1, 3, 5), ()),))
        self.assertEqual(parts(five, (("sum", "a"), *data(0, 1, 3))),
                         ((("b",), (3,), (3,)), (("c", "d"), (0, 1), (1,))))

    def test_like_joining(self):
        for form in FORMS:
            for kind in ["bits", "plain", 3, 4]:
                for lost in some_losses(formed(form, kind), 15, form):
                    told = parts(formed(form, kind), lost)
                    self.assertEqual(told, hanging(formed(form, kind), lost), (form, lost))
                    self.assert_plain(told)
        for table in tables() + [places("plain", 7)]:
            for lost in some_losses(table, 20):
                self.assertEqual(parts(table, lost), hanging(table, lost))

    def test_the_order_of_all_sums_is_not_that_of_their_names(self):
        columns = (("one", (), (("a", "z"), ("b", "c"), ("a", "b"), ("x", "y"))), ("two", ("y", "c", "z"), ()),
                   ("three", ("x", "b", "a"), (("b", "y"),)))
        table = Table("bits", columns)
        self.assertEqual(parts(table, data(3, 0)), ((("y", "x"), (3,), ()), (("z", "a"), (0,), ())))
        self.assertEqual(parts(table, data(2, 1, 0)), ((("c", "z", "b", "a"), (0, 1, 2), ()),))
        self.assertEqual(parts(table, (("sum", "b"), *data(4, 2, 1, 0))),
                         ((("y",), (4,), (4,)), (("c",), (1,), (1,)), (("z", "a"), (0, 2), (2,))))

    def test_none(self):
        for table in tables():
            self.assertEqual(parts(table, ()), ())
            self.assertEqual(parts(table, table.cells), ())
            self.assertEqual(parts(table, tuple(("sum", name) for name in table.sums)), ())

    def test_data_with_both_sums_lost_are_in_none(self):
        table = formed("line with one twice", "bits")
        lost = (*data(2, 1, 0), ("sum", "r"), ("sum", "q"))
        self.assertEqual(parts(table, lost), ((("p",), (0,), (0,)),))
        self.assertEqual(parts(table, (*lost, *data(3))), ((("p",), (0,), (0,)), (("s",), (3,), (3,))))

    def test_a_part_with_several_stubs_and_without(self):
        table = formed("star", 5)
        self.assertEqual(parts(table, (*data(3, 1, 2, 0), ("sum", "s"), ("sum", "q"))),
                         ((("t", "p", "r"), (0, 1, 2, 3), (0, 2)),))
        self.assertEqual(parts(table, data(3, 1)), ((("t", "p", "r"), (1, 3), ()),))
        self.assertEqual(parts(table, (*data(3, 1), ("sum", "p"))), ((("t",), (3,), (3,)), (("r",), (1,), (1,))))

    def test_any_order_of_the_lost_cells(self):
        table = formed("two parts", 4)
        lost = (*data(0, 2, 3, 4), ("sum", "s"))
        told = {parts(table, order) for order in itertools.permutations(lost)}
        self.assertEqual(told, {((("p", "q", "r"), (0, 2), ()), (("t", "u"), (3, 4), (3,)))})
        self.assertEqual({parts(lost=lost, table=table)}, told)

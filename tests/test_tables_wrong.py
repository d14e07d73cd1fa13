"""Table(kind, columns) with what makes no table: InvalidKind and InvalidColumns."""

import unittest

from pairsums.errors import InvalidColumns, InvalidKind
from pairsums.tables import Table
from tests.kit import FAR, LEFT, LETTERS, RIGHT, SIDE_COLUMNS, Anything, not_integers, not_names

DATUM = ("p", "q")


def column(letter, sums=(), data=()):
    return ("c" + letter, tuple(sums), tuple(data))


class Kinds(unittest.TestCase):
    def wrong(self):
        words = ["", "Bits", "bits ", " bits", "bit", "bitss", "plain\n", "PLAIN", "3", "12", "dial", "even", "odd"]
        return words + [0, 1, 2, -1, -3, 10 ** 9 + 1, 10 ** 79, -10 ** 79] + not_integers()

    def test_wrong_kinds(self):
        for kind in self.wrong():
            with self.subTest(kind=kind):
                with self.assertRaises(InvalidKind) as held:
                    Table(kind, SIDE_COLUMNS)
                self.assertIs(held.exception.given, kind)

    def test_ahead_of_wrong_columns(self):
        for kind in self.wrong():
            for columns in [None, (), [], (1,), SIDE_COLUMNS * 2]:
                with self.assertRaises(InvalidKind):
                    Table(kind, columns)
                with self.assertRaises(InvalidKind):
                    Table(columns=columns, kind=kind)

    def test_bounds(self):
        for kind in [3, 10 ** 9]:
            self.assertEqual(Table(kind, SIDE_COLUMNS).kind, kind)
        for kind in [2, 10 ** 9 + 1]:
            self.assertRaises(InvalidKind, Table, kind, SIDE_COLUMNS)


class Columns(unittest.TestCase):
    def assert_index(self, index, columns, kind="bits"):
        with self.subTest(columns=columns):
            with self.assertRaises(InvalidColumns) as held:
                Table(kind, columns)
            self.assertEqual(held.exception.index, index)
            if index is not None:
                self.assertIs(type(held.exception.index), int)

    def assert_each(self, make, wrong):
        """A wrong value in a column, as the first, the second and the third one."""
        for value in wrong:
            self.assert_index(0, (make(value), RIGHT, ("more", ("p",), ())))
            self.assert_index(1, (RIGHT, make(value), ("more", ("p",), ())))
            self.assert_index(2, (RIGHT, ("more", ("p",), ()), make(value)))

    def test_no_tuple_or_none(self):
        for columns in [(), [], list(SIDE_COLUMNS), {}, "left", "", None, True, 0, 3, set(), Anything(), b""]:
            self.assert_index(None, columns)
            self.assert_index(None, columns, "plain")
            self.assert_index(None, columns, 12)

    def test_no_triples(self):
        wrong = [(), ("x",), ("x", ()), ("x", (), (), ()), ["x", (), ()], "xyz", "x", "", {"x": 1, "y": 2, "z": 3}, 0,
                 None, True, False, Anything(), {"x", "y", "z"}]
        self.assert_each(lambda value: value, wrong)

    def test_wrong_names(self):
        self.assert_each(lambda value: (value, (), ()), not_names())

    def test_wrong_sums(self):
        self.assert_each(lambda value: ("x", (value,), ()), not_names())
        self.assert_each(lambda value: ("x", ("y", value), ()), not_names())
        self.assert_each(lambda value: ("x", (value, "y"), ()), not_names())

    def test_no_tuples_of_sums(self):
        wrong = [[], ["y"], "", "y", "yz", None, True, 0, 1, {}, {"y": 1}, {"y"}, b"y", Anything()]
        self.assert_each(lambda value: ("x", value, ()), wrong)

    def test_no_tuples_of_data(self):
        wrong = [[], [DATUM], "", "pq", None, True, 0, 1, {}, {"p": "q"}, {DATUM}, Anything()]
        self.assert_each(lambda value: ("x", (), value), wrong)

    def test_wrong_data(self):
        wrong = [("q", "p"), ("p", "p"), ("p", "r"), ("a", "q"), ("p",), (), ("p", "q", "q"), ["p", "q"], "pq", "p q",
                 {"p": "q"}, {"p", "q"}, (["p"], "q"), ("p", ["q"]), ("p", None), (None, "q"), ("p", True), (0, 1),
                 ("p", Anything()), (Anything(), "q"), (("p",), ("q",)), ("P", "q"), ("p", "q "), ("", "q"),
                 (b"p", "q"), ("sum", "p"), ("left", "right"), None, True, False, 0, 1, -1, Anything(), DATUM + DATUM,
                 (DATUM,)]
        self.assert_each(lambda value: ("x", (), (value,)), wrong)
        self.assert_each(lambda value: ("x", (), (DATUM, value)), wrong)
        self.assert_each(lambda value: ("x", (), (value, DATUM)), wrong)

    def test_names_that_stood_before(self):
        self.assert_index(1, (LEFT, ("left", ("q",), ())))
        self.assert_index(2, (LEFT, RIGHT, ("left", (), ())))
        self.assert_index(2, (LEFT, RIGHT, ("right", (), ())))
        self.assert_index(1, (LEFT, LEFT, LEFT))

    def test_sums_that_stood_before(self):
        self.assert_index(1, (LEFT, ("right", ("p",), ())))
        self.assert_index(2, (LEFT, RIGHT, ("far", ("r", "q"), ())))
        self.assert_index(2, (LEFT, RIGHT, ("far", ("p", "s"), ())))
        self.assert_index(0, (("left", ("p", "p"), ()), RIGHT))
        self.assert_index(1, (LEFT, ("right", ("q", "r", "q"), ())))

    def test_the_ninth_column(self):
        eight = tuple(column(letter, letter) for letter in LETTERS[:8])
        self.assertEqual(len(Table("bits", eight).names), 8)
        self.assert_index(8, eight + (column("i", "i"),))
        self.assert_index(8, eight + (column("i"),))
        self.assert_index(8, eight + (column("i"), column("j")))
        self.assert_index(8, eight + (None,))
        self.assert_index(8, eight * 100)
        self.assert_index(7, eight[:7] + (None, column("i")))
        self.assert_index(0, ((),) + eight)
        # The form of all columns comes ahead of the sums at all.
        self.assert_index(8, tuple(column(letter) for letter in LETTERS[:9]))

    def test_no_sums(self):
        self.assert_index(None, (("left", (), ()),))
        self.assert_index(None, (("left", (), ()), ("right", (), ())))
        self.assert_index(None, tuple(column(letter) for letter in LETTERS[:8]))
        self.assert_index(None, (("left", (), (DATUM,)), ("right", (), (None,))))
        self.assert_index(None, (("left", (), (None,) * 25),))

    def test_the_eleventh_sum(self):
        self.assertEqual(len(Table("bits", (("x", tuple(LETTERS[:10]), ()),)).sums), 10)
        self.assert_index(0, (("x", tuple(LETTERS[:11]), ()),))
        self.assert_index(1, (("x", tuple(LETTERS[:10]), ()), ("y", ("k",), ()), ("z", ("l",), ())))
        self.assert_index(1, (("x", tuple(LETTERS[:9]), ()), ("y", ("j", "k"), ())))
        self.assert_index(2, (("x", tuple(LETTERS[:10]), ()), ("y", (), ()), ("z", ("k",), ())))

    def test_the_twenty_fifth_datum(self):
        sums = ("x", ("p", "q"), ())
        self.assertEqual(len(Table("bits", (sums, ("y", (), (DATUM,) * 24))).data), 24)
        self.assert_index(1, (sums, ("y", (), (DATUM,) * 25)))
        self.assert_index(0, (("x", ("p", "q"), (DATUM,) * 25), ("y", (), ())))
        self.assert_index(2, (sums, ("y", (), (DATUM,) * 24), ("z", (), (DATUM,))))
        self.assert_index(3, (sums, ("y", (), (DATUM,) * 24), ("z", (), ()), ("w", (), (DATUM,))))
        self.assert_index(2, (sums, ("y", (), (DATUM,) * 23), ("z", (), (DATUM,) * 2)))

    def test_the_order_of_faults(self):
        bad_datum = ("x", ("p",), (("p", "p"),))
        # A wrong form comes ahead of a wrong datum, wherever they stand.
        self.assert_index(1, (bad_datum, None))
        self.assert_index(1, (bad_datum, ("x", ("q",), ())))
        self.assert_index(1, (bad_datum, ("y", ("p",), ())))
        self.assert_index(2, (bad_datum, RIGHT, ["z", (), ()], None))
        self.assert_index(8, (bad_datum,) + tuple(column(letter) for letter in LETTERS[:8]))
        # No sums at all come behind wrong forms and ahead of wrong data.
        self.assert_index(1, (("x", (), (("p", "p"),)), ("x", (), ())))
        self.assert_index(None, (("x", (), (("p", "p"),)), ("y", (), ())))
        # Then the first column with too much or a wrong datum.
        many_sums = ("y", tuple(LETTERS[:11]), ())
        many_data = ("z", (), (("a", "b"),) * 25)
        wrong = ("w", (), (("b", "a"),))
        self.assert_index(0, (many_sums, many_data, wrong))
        self.assert_index(0, (many_data, wrong, many_sums))
        self.assert_index(0, (wrong, many_sums, many_data))
        few = ("y", tuple(LETTERS[:9]), ())
        self.assert_index(1, (few, many_data, wrong, ("v", ("k", "l"), ())))
        self.assert_index(1, (few, wrong, many_data, ("v", ("k", "l"), ())))
        self.assert_index(1, (few, ("v", ("k", "l"), ()), wrong, many_data))
        # Data may be in sums of all columns, the eleventh sum included.
        self.assert_index(2, (("x", (), (("a", "k"),)), ("y", tuple(LETTERS[:10]), ()), ("z", ("k",), ())))

    def test_nothing_is_changed(self):
        columns = [LEFT, RIGHT, ["far", [], [DATUM]]]
        with self.assertRaises(InvalidColumns):
            Table("bits", columns)
        with self.assertRaises(InvalidColumns):
            Table("bits", tuple(columns))
        self.assertEqual(columns, [LEFT, RIGHT, ["far", [], [DATUM]]])
        self.assertEqual(SIDE_COLUMNS, (LEFT, RIGHT, FAR))

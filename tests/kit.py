"""What several tests use: tables, sets of lost cells, values that are wrong nearly everywhere, and a look at errors."""

import itertools
import random
import unittest

from pairsums.rounds import prime_rounds, table_of
from pairsums.tables import Table

LEFT = ("left", ("p",), (("p", "q"),))
RIGHT = ("right", ("q",), ())
FAR = ("far", (), (("p", "q"),))
SIDE_COLUMNS = (LEFT, RIGHT, FAR)

LETTERS = "abcdefghijklmnopqrstuvwxyz"
KINDS = ("bits", "plain", 3, 4, 5, 6, 12, 999999999, 10 ** 9)

# Forms of tables: the sums, then the data, as pairs of their letters.
FORMS = {
    "no data": ("pq", ""),
    "one datum": ("pq", "pq"),
    "two of the same": ("pq", "pq pq"),
    "three of the same": ("pqr", "pq pq pq"),
    "ring of three": ("pqr", "pq pr qr"),
    "ring of four": ("pqrs", "pq qr rs ps"),
    "ring of three with a tail": ("pqrst", "pq pr qr rs st"),
    "ring of four with a tail": ("spqrt", "pq qr rs ps st"),
    "ring of five": ("pqrst", "pq qr rs st pt"),
    "star": ("tpqrs", "pq pr ps pt"),
    "two rings in one sum": ("pqrst", "pq pr qr rs rt st"),
    "square with its diagonal": ("pqrs", "pq qr rs ps pr"),
    "two parts": ("pqrstu", "pq qr pr st tu"),
    "line with one twice": ("pqrs", "pq qr qr rs"),
    "alone": ("pqr", "pq"),
}


class Anything:
    """An object that says it equals everything."""

    def __eq__(self, other):
        return True

    def __hash__(self):
        return 0


def side(kind="plain"):
    return Table(kind, SIDE_COLUMNS)


def widest(kind="bits"):
    """Eight columns, ten sums, twenty-four data: three in each column, with sums before and behind it."""
    sums = (("a", "b"), ("c",), (), ("d", "e", "f"), ("g",), ("h", "i"), (), ("j",))
    pairs = [(LETTERS[one], LETTERS[other]) for one in range(10) for other in range(one + 1, 10)][:24]
    columns = [("c" + LETTERS[k], sums[k], tuple(pairs[k::8])) for k in range(8)]
    return Table(kind, tuple(columns))


def tables():
    """Tables of all kinds and many forms."""
    found = [side("bits"), side("plain"), side(3), side(12), side(10 ** 9), widest("bits"), widest("plain"), widest(7)]
    found.append(Table("bits", (("a", ("a",), ()),)))
    found.append(Table("plain", (("one", ("p", "q"), ()), ("empty", (), ()), ("two", (), (("p", "q"),) * 3))))
    found.append(Table(10, (("early", (), (("x", "y"), ("x", "z"))), ("late", ("z", "y", "x"), (("y", "z"),)))))
    found.append(Table("plain", (("abcdefgh", ("stuvwxyz", "abcdefgh"), (("abcdefgh", "stuvwxyz"),)),)))
    found.append(Table("bits", (("datum", ("sum", "column"), (("column", "sum"),)), ("kind", ("bits", "kind"), ()))))
    return found


def formed(form, kind):
    """A table of this form whose data stand, where it can be, in other columns than their sums."""
    sums, data = FORMS[form]
    pairs = tuple(tuple(word) for word in data.split())
    half, many = len(sums) // 2, len(pairs) // 2
    return Table(kind, (("one", tuple(sums[:half]), pairs[:many]), ("none", (), ()), ("two", (), pairs[many:]),
                        ("three", tuple(sums[half:]), ())))


def places(kind, prime):
    """The table of the rounds of prime + 1 places."""
    return table_of(kind, prime_rounds(prime))


def all_losses(table):
    """All sets of cells, each in the order of the cells."""
    for many in range(len(table.cells) + 1):
        yield from itertools.combinations(table.cells, many)


def some_losses(table, many, seed=1):
    """So many sets of lost cells, of all sizes and in any order; none and all of them among these."""
    chance = random.Random(seed)
    yield ()
    yield table.cells
    yield table.cells[::-1]
    yield tuple(("datum", number) for number in range(len(table.data)))
    for _ in range(many):
        yield tuple(chance.sample(table.cells, chance.randint(0, len(table.cells))))


class Case(unittest.TestCase):
    """A test that looks at errors with all that they tell."""

    def assert_told(self, error, value, call, /, *passed, **named):
        """That the call raises this error with this value, which is the very one that was passed, or an index."""
        with self.subTest(error=error.__name__, value=value, call=call.__name__, passed=passed, named=named):
            with self.assertRaises(error) as held:
                call(*passed, **named)
            self.assertIs(type(held.exception), error)
            if hasattr(held.exception, "index"):
                self.assertEqual(held.exception.index, value)
                self.assertIs(type(held.exception.index), type(value))
            else:
                self.assertIs(held.exception.given, value)

    def assert_plain(self, value):
        """That only tuples, strings, integers, True, False and None are in a value."""
        self.assertIn(type(value), (tuple, str, int, bool, type(None)))
        for part in value if type(value) is tuple else ():
            self.assert_plain(part)


def not_tables():
    """Values that are no tables."""
    return [Table, side().columns, str(side()), repr(side()), ("plain", SIDE_COLUMNS), [side()], (side(),),
            {"table": side()}, *not_integers(), 0, 3]


def not_cells():
    """Values that are no cells of the table `side`."""
    return [("datum", 2), ("datum", -1), ("datum", 10 ** 79), ("datum", True), ("datum", False), ("datum", None),
            ("datum", "0"), ("datum", "p"), ("datum", [0]), ("datum", Anything()), ("sum", "r"), ("sum", "left"),
            ("sum", ""), ("sum", 0), ("sum", None), ("sum", ["p"]), ("sum", {}), ("sum", Anything()), ("sum", b"p"),
            ("Sum", "p"), (None, "p"), (Anything(), "p"), (Anything(), 0), (["sum"], "p"), ("p", "sum"), ("sum",), (),
            ("sum", "p", "q"), (("sum", "p"),), ["sum", "p"], ["datum", 0], "sum p", "datum 0", "p", "left", 0, 1, -1,
            {"sum": "p"}, {"sum", "p"}, *not_integers()]


def not_tuples():
    """Values that are no tuples."""
    return [[], [("sum", "p")], ["left"], "", "left", None, True, False, 0, 1, {}, {"left": 1}, {"left"},
            {("sum", "p"): 1}, b"left", Anything(), tuple, len]


def not_integers():
    """Values that are no integers."""
    return [True, False, None, "1", "", b"1", (), (1,), [1], {}, {1: 1}, {1}, Anything(), int, ValueError()]


def not_names():
    """Values that are no names."""
    words = ["", "A", "aB", "a b", " a", "a ", "a1", "1", "a_", "a\n", "\n", "a.", "abcdefghi", "a" * 100, "`", "{"]
    return words + not_integers()[:2] + [None, 0, 1, -1, b"a", ("a",), ["a"], (), [], {}, {"a": 1}, {"a"}, Anything()]


def not_strings():
    """Values that are no strings."""
    return [True, False, None, 0, 1, -1, 10 ** 79, b"a", (), ("a",), [], ["a"], {}, {"a": "b"}, {"a"}, Anything(), str]

"""What several tests use: tables, and values that are wrong nearly everywhere."""

from pairsums.tables import Table

LEFT = ("left", ("p",), (("p", "q"),))
RIGHT = ("right", ("q",), ())
FAR = ("far", (), (("p", "q"),))
SIDE_COLUMNS = (LEFT, RIGHT, FAR)

LETTERS = "abcdefghijklmnopqrstuvwxyz"


class Anything:
    """An object that says it equals everything."""

    def __eq__(self, other):
        return True

    def __hash__(self):
        return 0


def side(kind="plain"):
    return Table(kind, SIDE_COLUMNS)


def widest(kind="bits"):
    """Eight columns, ten sums, twenty-four data: three in each column, with sums before and behind it."""
    sums = (("a", "b"), ("c",), (), ("d", "e", "f"), ("g",), ("h", "i"), (), ("j",))
    pairs = [(LETTERS[one], LETTERS[other]) for one in range(10) for other in range(one + 1, 10)][:24]
    columns = [("c" + LETTERS[k], sums[k], tuple(pairs[k::8])) for k in range(8)]
    return Table(kind, tuple(columns))


def tables():
    """Tables of all kinds and many forms."""
    found = [side("bits"), side("plain"), side(3), side(12), side(10 ** 9), widest("bits"), widest("plain"), widest(7)]
    found.append(Table("bits", (("a", ("a",), ()),)))
    found.append(Table("plain", (("one", ("p", "q"), ()), ("empty", (), ()), ("two", (), (("p", "q"),) * 3))))
    found.append(Table(10, (("early", (), (("x", "y"), ("x", "z"))), ("late", ("z", "y", "x"), (("y", "z"),)))))
    found.append(Table("plain", (("abcdefgh", ("stuvwxyz", "abcdefgh"), (("abcdefgh", "stuvwxyz"),)),)))
    found.append(Table("bits", (("datum", ("sum", "column"), (("column", "sum"),)), ("kind", ("bits", "kind"), ()))))
    return found


def not_integers():
    """Values that are no integers."""
    return [True, False, None, "1", "", b"1", (), (1,), [1], {}, {1: 1}, {1}, Anything(), int, ValueError()]


def not_names():
    """Values that are no names."""
    words = ["", "A", "aB", "a b", " a", "a ", "a1", "1", "a_", "a\n", "\n", "a.", "abcdefghi", "a" * 100, "`", "{"]
    return words + not_integers()[:2] + [None, 0, 1, -1, b"a", ("a",), ["a"], (), [], {}, {"a": 1}, {"a"}, Anything()]


def not_strings():
    """Values that are no strings."""
    return [True, False, None, 0, 1, -1, 10 ** 79, b"a", (), ("a",), [], ["a"], {}, {"a": "b"}, {"a"}, Anything(), str]

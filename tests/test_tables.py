"""What a valid table tells: points [3], [5] to [8], and the interface, "pairsums/tables.py"."""

import unittest
import unittest.mock

from pairsums.errors import UnknownName
from pairsums.tables import Table
from tests.kit import LETTERS, SIDE_COLUMNS, Anything, not_integers, side, tables, widest

SIDE_TEXT = """kind plain
column left
sum p
datum p q
column right
sum q
column far
datum p q"""


class Parts(unittest.TestCase):
    def test_example_of_the_document(self):
        table = Table("plain", (("left", ("p",), (("p", "q"),)), ("right", ("q",), ()), ("far", (), (("p", "q"),))))
        told = [table.cells, table.cells_of("right"), table.column_of(("datum", 1)), table.full((5, -2)),
                table.is_right((3, 5, 3, -2)), table.is_right((3, 5, 4, -2)), repr(table)]
        self.assertEqual(told, [
            (('sum', 'p'), ('datum', 0), ('sum', 'q'), ('datum', 1)), (('sum', 'q'),), 'far', (3, 5, 3, -2), True,
            False, 'Table of 3 columns, 2 sums and 2 data'])

    def test_by_position_and_by_name(self):
        for table in [Table("bits", SIDE_COLUMNS), Table(kind="bits", columns=SIDE_COLUMNS),
                      Table(columns=SIDE_COLUMNS, kind="bits")]:
            self.assertEqual(table.kind, "bits")
            self.assertIs(table.columns, SIDE_COLUMNS)
            self.assertEqual(table.names, ("left", "right", "far"))
            self.assertEqual(table.sums, ("p", "q"))
            self.assertEqual(table.data, (("p", "q"), ("p", "q")))
            self.assertEqual(table.cells, (("sum", "p"), ("datum", 0), ("sum", "q"), ("datum", 1)))

    def test_all_kinds(self):
        for kind in ["bits", "plain", 3, 4, 12, 10 ** 9 - 1, 10 ** 9]:
            table = side(kind)
            self.assertEqual(table.kind, kind)
            self.assertIs(type(table.kind), type(kind))

    def test_sums_and_data_in_other_columns(self):
        table = Table(10, (("early", (), (("x", "y"), ("x", "z"))), ("late", ("z", "y", "x"), (("y", "z"),))))
        self.assertEqual(table.names, ("early", "late"))
        self.assertEqual(table.sums, ("z", "y", "x"))
        self.assertEqual(table.data, (("x", "y"), ("x", "z"), ("y", "z")))
        self.assertEqual(table.cells, (("datum", 0), ("datum", 1), ("sum", "z"), ("sum", "y"), ("sum", "x"),
                                       ("datum", 2)))
        self.assertEqual(table.full((3, 4, 9)), (3, 4, 3, 2, 7, 9))

    def test_widest(self):
        table = widest()
        self.assertEqual((len(table.names), len(table.sums), len(table.data), len(table.cells)), (8, 10, 24, 34))
        self.assertEqual(table.sums, tuple("abcdefghij"))
        self.assertEqual(table.cells_of("ca"), (("sum", "a"), ("sum", "b"), ("datum", 0), ("datum", 1), ("datum", 2)))
        self.assertEqual(table.cells_of("cc"), (("datum", 6), ("datum", 7), ("datum", 8)))
        self.assertEqual(table.cells_of("ch"), (("sum", "j"), ("datum", 21), ("datum", 22), ("datum", 23)))

    def test_data_and_sums_in_one_column(self):
        table = Table("bits", (("all", tuple(LETTERS[:10]), (("a", "b"),) * 24),))
        self.assertEqual(table.data, (("a", "b"),) * 24)
        self.assertEqual(table.cells, tuple([("sum", letter) for letter in LETTERS[:10]] +
                                            [("datum", number) for number in range(24)]))

    def test_columns_tell_all(self):
        for table in tables():
            with self.subTest(str(table)):
                self.assertEqual(table.names, tuple(name for name, _, _ in table.columns))
                self.assertEqual(table.sums, sum([sums for _, sums, _ in table.columns], ()))
                self.assertEqual(table.data, sum([data for _, _, data in table.columns], ()))
                self.assertEqual(table.cells, sum([table.cells_of(name) for name in table.names], ()))
                numbers = [which for what, which in table.cells if what == "datum"]
                self.assertEqual(numbers, list(range(len(table.data))))
                sums = [which for what, which in table.cells if what == "sum"]
                self.assertEqual(sums, list(table.sums))

    def test_names_of_columns_and_of_sums_are_apart(self):
        table = Table("bits", (("p", ("p", "q"), ()), ("q", (), ())))
        self.assertEqual((table.names, table.sums), (("p", "q"), ("p", "q")))

    def test_all_are_tuples_and_properties_cannot_be_set(self):
        table = side()
        for name in ["kind", "columns", "names", "sums", "data", "cells"]:
            if name != "kind":
                self.assertIs(type(getattr(table, name)), tuple)
            self.assertIsInstance(Table.__dict__[name], property)
            with self.assertRaises(AttributeError):
                setattr(table, name, getattr(table, name))

    def test_the_class_defines_its_methods(self):
        for name in ["__init__", "read", "cells_of", "column_of", "full", "is_right", "__str__", "__repr__", "__eq__"]:
            self.assertIn(name, Table.__dict__)
        self.assertEqual(Table.__module__, "pairsums.tables")
        self.assertIsInstance(Table.__dict__["read"], staticmethod)


class CellsAndColumns(unittest.TestCase):
    def test_cells_of(self):
        table = side()
        self.assertEqual(table.cells_of("left"), (("sum", "p"), ("datum", 0)))
        self.assertEqual(table.cells_of(name="right"), (("sum", "q"),))
        self.assertEqual(table.cells_of("far"), (("datum", 1),))
        empty = Table("bits", (("one", ("p",), ()), ("two", (), ())))
        self.assertEqual(empty.cells_of("two"), ())

    def test_cells_of_nothing(self):
        table = side()
        wrong = ["", "p", "q", "lef", "leftt", "Left", "left ", " left", "left\n", "sum", "datum", 0, 1, -1, ("left",),
                 ["left"], {"left"}, ("sum", "p"), b"left", 10 ** 79, Anything(), *not_integers()]
        for name in wrong:
            with self.subTest(name=name):
                with self.assertRaises(UnknownName) as held:
                    table.cells_of(name)
                self.assertIs(held.exception.given, name)

    def test_column_of(self):
        for table in tables():
            for name in table.names:
                for cell in table.cells_of(name):
                    self.assertEqual(table.column_of(cell), name)
                    self.assertEqual(table.column_of(cell=cell), name)

    def test_column_of_nothing(self):
        table = side()
        wrong = [("datum", 2), ("datum", -1), ("datum", -2), ("datum", 10 ** 79), ("datum", True), ("datum", False),
                 ("datum", None), ("datum", "0"), ("datum", "p"), ("datum", (0,)), ("datum", [0]),
                 ("datum", Anything()),
                 ("sum", "r"), ("sum", "left"), ("sum", "P"), ("sum", ""), ("sum", "p "), ("sum", 0), ("sum", None),
                 ("sum", True), ("sum", ("p",)), ("sum", ["p"]), ("sum", {}), ("sum", Anything()), ("sum", b"p"),
                 ("Sum", "p"), ("sums", "p"), ("", "p"), (None, "p"), (0, 0), (Anything(), "p"), (Anything(), 0),
                 ("column", "left"), ("data", 0), (["sum"], "p"), (b"sum", "p"), ("p", "sum"), (0, "datum"),
                 ("sum",), ("datum",), (), ("sum", "p", "q"), ("datum", 0, 0), (("sum", "p"),), ["sum", "p"],
                 ["datum", 0], "sum p", "datum 0", "sum", "p", "left", 0, 1, -1, {"sum": "p"}, {"sum", "p"},
                 *not_integers()]
        for cell in wrong:
            with self.subTest(cell=cell):
                with self.assertRaises(UnknownName) as held:
                    table.column_of(cell)
                self.assertIs(held.exception.given, cell)

    def test_no_datum_in_a_table_without_data(self):
        table = Table("bits", (("one", ("p",), ()),))
        with self.assertRaises(UnknownName):
            table.column_of(("datum", 0))


class Equality(unittest.TestCase):
    def test_equal_exactly_if_the_texts_are(self):
        for first in tables():
            for second in tables():
                self.assertIs(first == second, str(first) == str(second))
                self.assertIs(first != second, str(first) != str(second))

    def test_small_differences(self):
        table = side()
        others = [
            Table("bits", SIDE_COLUMNS), Table(3, SIDE_COLUMNS), Table("plain", SIDE_COLUMNS[:2]),
            Table("plain", SIDE_COLUMNS[::-1]), Table("plain", SIDE_COLUMNS + (("more", (), ()),)),
            Table("plain", (("leff", ("p",), (("p", "q"),)),) + SIDE_COLUMNS[1:]),
            Table("plain", (("left", ("p", "r"), (("p", "q"),)),) + SIDE_COLUMNS[1:]),
            Table("plain", (("left", ("p",), (("p", "q"),) * 2),) + SIDE_COLUMNS[1:]),
        ]
        for other in others:
            self.assertFalse(table == other)
            self.assertTrue(table != other)

    def test_never_equal_to_another_class(self):
        table = side()
        for other in [str(table), repr(table), table.columns, ("plain", table.columns), table.cells, Table, object(),
                      *not_integers()]:
            if isinstance(other, Anything):
                continue
            with self.subTest(other=other):
                self.assertFalse(table == other)
                self.assertFalse(other == table)
                self.assertTrue(table != other)
                self.assertTrue(other != table)
        # An object that says so itself is asked second.
        self.assertIs(table == Anything(), False)
        self.assertIs(table == unittest.mock.ANY, False)

    def test_a_table_equals_itself_and_is_true(self):
        for table in tables():
            self.assertTrue(table == table)
            self.assertFalse(table != table)
            self.assertTrue(table)


class Texts(unittest.TestCase):
    def test_text(self):
        self.assertEqual(str(side()), SIDE_TEXT)
        self.assertEqual(str(side(12)), SIDE_TEXT.replace("plain", "12"))
        self.assertEqual(str(side("bits")), SIDE_TEXT.replace("plain", "bits"))
        self.assertEqual(str(side(10 ** 9)), SIDE_TEXT.replace("plain", "1000000000"))

    def test_text_of_point_7(self):
        table = Table("bits", (("left", ("p",), (("p", "q"),)), ("right", ("q",), ())))
        self.assertEqual(str(table), "kind bits\ncolumn left\nsum p\ndatum p q\ncolumn right\nsum q")

    def test_sums_before_data_and_empty_columns(self):
        table = Table(3, (("a", ("z", "b"), (("b", "z"), ("b", "z"))), ("e", (), ()), ("d", (), ())))
        self.assertEqual(str(table), "kind 3\ncolumn a\nsum z\nsum b\ndatum b z\ndatum b z\ncolumn e\ncolumn d")

    def test_repr(self):
        self.assertEqual(repr(side()), "Table of 3 columns, 2 sums and 2 data")
        self.assertEqual(repr(widest()), "Table of 8 columns, 10 sums and 24 data")
        self.assertEqual(repr(Table("bits", (("a", ("a",), ()),))), "Table of 1 columns, 1 sums and 0 data")
        self.assertEqual(repr(Table("bits", (("a", ("a", "b"), (("a", "b"),)),))),
                         "Table of 1 columns, 2 sums and 1 data")

    def test_no_call_changes_a_table(self):
        for table in tables():
            before = (str(table), repr(table), table.columns, table.cells, table.data)
            cells = table.full((0,) * len(table.data))
            table.is_right(cells)
            table.cells_of(table.names[0])
            table.column_of(table.cells[-1])
            Table.read(str(table))
            self.assertEqual((str(table), repr(table), table.columns, table.cells, table.data), before)
            self.assertEqual(table.full((0,) * len(table.data)), cells)

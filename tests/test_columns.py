"""Lost columns: point [12] and the interface, "pairsums/columns.py"."""

import itertools

from pairsums.columns import columns_back, finds_wrong, joined, least_losses, strength
from pairsums.errors import InvalidColumns, InvalidNames, NotATable
from pairsums.losing import back, comes_back
from pairsums.tables import Table
from tests.kit import (FORMS, KINDS, LETTERS, SIDE_COLUMNS, Anything, Case, formed, not_names, places, side, tables,
                       widest)
from tests.search import back_by_search


def some_tables():
    """Tables of all forms and kinds, those with many columns among them."""
    found = tables() + [places(kind, prime) for kind in ["bits", "plain", 5, 12] for prime in (3, 5, 7)]
    for kind in ["bits", "plain", 3, 4]:
        found.extend(formed(form, kind) for form in FORMS)
        found.append(by_columns("pqr", "pq|pr|qr||pq", kind))
        found.append(by_columns("pqrs", "pq rs|pr|qs|qr|ps pq", kind))
        found.append(widest(kind))
    return found


def by_columns(sums, data, kind):
    """A table with the sums in the first columns, one in each, and the data in columns as told."""
    words = data.split("|")
    return Table(kind, tuple(("c" + LETTERS[at], tuple(sums[at:at + 1]), tuple(tuple(pair) for pair in word.split()))
                             for at, word in enumerate(words)))


def cells_in(table, names):
    return tuple(cell for name in names for cell in table.cells_of(name))


def losses(table):
    """All sets of columns that do not come back."""
    return [names for many in range(len(table.names) + 1) for names in itertools.combinations(table.names, many)
            if not comes_back(table, cells_in(table, names))]


class ColumnsBack(Case):
    def test_like_their_cells(self):
        for table in some_tables():
            gone = losses(table)
            for many in range(len(table.names) + 1):
                for names in itertools.combinations(table.names, many):
                    self.assertIs(columns_back(table, names), names not in gone)

    def test_like_a_search(self):
        for form in FORMS:
            for kind in ["bits", "plain", 3]:
                table = formed(form, kind)
                for names in [(), ("one",), ("two",), ("three", "one"), ("none", "two"), table.names]:
                    lost = cells_in(table, names)
                    self.assertIs(columns_back(table, names), len(back_by_search(table, lost)) == len(lost))

    def test_any_order_and_by_name(self):
        table = places("bits", 5)
        for names in itertools.permutations(table.names, 3):
            self.assertIs(columns_back(table, names), columns_back(table, tuple(sorted(names))))
        self.assertIs(columns_back(names=("re", "ra"), table=table), True)
        self.assertIs(columns_back(table, ()), True)

    def test_columns_without_cells(self):
        for kind in KINDS:
            table = Table(kind, (("empty", (), ()), ("full", ("p", "q"), (("p", "q"),)), ("bare", (), ())))
            self.assertIs(columns_back(table, ("empty", "bare")), True)
            self.assertIs(columns_back(table, ("full", "bare")), False)


class Strength(Case):
    def test_like_all_sets(self):
        for table in some_tables():
            gone = losses(table)
            expected = min([len(names) for names in gone], default=len(table.names) + 1) - 1
            self.assertEqual(strength(table), expected)
            self.assertIs(type(strength(table)), int)

    def test_named(self):
        for kind in KINDS:
            self.assertEqual(strength(formed("no data", kind)), 4)
            self.assertEqual(strength(Table(kind, (("a", ("p",), ()),))), 1)
            self.assertEqual(strength(Table(kind, (("a", ("p", "q"), (("p", "q"),)),))), 0)
            self.assertEqual(strength(side(kind)), 1)
            for prime in (3, 5, 7):
                self.assertEqual(strength(table=places(kind, prime)), 2)
        self.assertEqual(strength(widest()), 0)

    def test_rings_of_three_in_kinds(self):
        # Three columns with the data of a ring: they are too many in bits and on even dials alone.
        for kind in KINDS:
            table = Table(kind, (("a", (), (("p", "q"),)), ("b", (), (("p", "r"),)), ("c", (), (("q", "r"),)),
                                 ("d", ("p",), ()), ("e", ("q",), ()), ("f", ("r",), ())))
            odd_or_plain = kind == "plain" or kind != "bits" and kind % 2 == 1
            self.assertEqual(strength(table), 2)
            self.assertEqual(("a", "b", "c") in least_losses(table), not odd_or_plain)


class LeastLosses(Case):
    def test_like_all_sets(self):
        for table in some_tables():
            gone = losses(table)
            least = [names for names in gone if not any(set(other) < set(names) for other in gone)]
            expected = sorted(least, key=lambda names: (len(names), [table.names.index(name) for name in names]))
            told = least_losses(table)
            self.assertEqual(told, tuple(expected))
            self.assert_plain(told)
            for names in told:
                self.assertIs(columns_back(table, names), False)
                for part in itertools.combinations(names, len(names) - 1):
                    self.assertIs(columns_back(table, part), True)

    def test_order_of_the_columns_is_not_that_of_their_names(self):
        columns = (("z", ("p",), ()), ("m", ("q",), ()), ("a", (), (("p", "q"),)), ("b", (), (("p", "q"),)))
        for kind in KINDS:
            self.assertEqual(least_losses(Table(kind, columns)), (("a", "b"), ("z", "m", "a"), ("z", "m", "b")))
            self.assertEqual(least_losses(Table(kind, columns[::-1])), (("b", "a"), ("b", "m", "z"), ("a", "m", "z")))

    def test_a_column_that_does_not_come_back_alone(self):
        for kind in KINDS:
            table = Table(kind, (("x", (), (("p", "q"),)), ("y", ("p", "q"), (("p", "q"),)), ("w", ("r",), ())))
            self.assertEqual(least_losses(table=table), (("y",),))
            table = Table(kind, (("y", (), (("p", "q"), ("p", "q"))), ("x", ("p",), ()), ("a", (), (("q", "r"),)),
                                 ("w", ("r", "q"), (("q", "r"),))))
            self.assertEqual(least_losses(table), (("y",), ("w",)))

    def test_none(self):
        for kind in KINDS:
            self.assertEqual(least_losses(formed("no data", kind)), ())
            self.assertEqual(least_losses(Table(kind, (("a", ("p",), ()), ("b", (), ())))), ())

    def test_all_columns_together(self):
        for kind in KINDS:
            table = Table(kind, (("a", ("p",), ()), ("b", ("q",), ()), ("c", (), (("p", "q"),))))
            self.assertEqual((least_losses(table), strength(table)), ((("a", "b", "c"),), 2))

    def test_perfect_rounds(self):
        for kind in ["bits", "plain", 5, 6]:
            for prime in (5, 7):
                table = places(kind, prime)
                three = tuple(itertools.combinations(table.names, 3))
                self.assertEqual(least_losses(table), three)


class Joined(Case):
    def test_one_more_column(self):
        for table in tables():
            first = table.sums[0]
            for column in [("more", (), ()), ("extra", ("zzz",), ()), ("new", ("zz", "zzz"), (("zz", "zzz"),)),
                           ("old", ("zzzz",), ((first, "zzzz"),))]:
                if len(table.names) < 8 and len(table.sums) < 8:
                    told = joined(table, column)
                    self.assertEqual(told, Table(table.kind, table.columns + (column,)))
                    self.assertIs(type(told), Table)
                    self.assertEqual(told.columns[-1], column)
        self.assertEqual(joined(column=("more", (), ()), table=side()),
                         Table("plain", SIDE_COLUMNS + (("more", (), ()),)))
        self.assertEqual(str(side()), str(Table("plain", SIDE_COLUMNS)))

    def test_data_in_all_sums(self):
        five = places("bits", 5)
        table = joined(five, ("more", ("z",), (("a", "d"), ("a", "z"))))
        self.assertEqual(table.data, five.data + (("a", "d"), ("a", "z")))
        self.assertEqual(joined(table, ("last", (), (("c", "z"),))).data[-1], ("c", "z"))

    def assert_no_table(self, table, column):
        self.assert_told(InvalidColumns, len(table.names), joined, table, column)
        self.assert_told(InvalidColumns, len(table.names), joined, column=column, table=table)

    def test_no_such_table(self):
        wrong = [None, (), ("x",), ("x", ()), ("x", (), (), ()), ["x", (), ()], "xyz", 0, True, {}, Anything(),
                 ("x", [], ()), ("x", (), []), ("x", "y", ()), ("x", ("p",), ()), ("x", ("y", "y"), ()),
                 ("x", (), (("q", "p"),)), ("x", (), (("p", "r"),)), ("x", (), (("p", "p"),)), ("x", (), (("p",),)),
                 ("x", (), (["p", "q"],)), ("x", (), (None,)), ("x", (), ("pq",)), ("x", (), (("p", Anything()),)),
                 ("left", (), ()), ("far", ("r",), ())]
        for kind in ["plain", "bits", 12]:
            for column in wrong:
                self.assert_no_table(side(kind), column)
            for name in not_names():
                self.assert_no_table(side(kind), (name, (), ()))
                self.assert_no_table(side(kind), ("x", (name,), ()))

    def test_too_many(self):
        eight = Table("bits", tuple(("c" + LETTERS[at], (LETTERS[at],), ()) for at in range(8)))
        self.assert_no_table(eight, ("more", (), ()))
        self.assert_no_table(eight, None)
        ten = Table(9, (("x", tuple(LETTERS[:10]), ()),))
        self.assert_no_table(ten, ("more", ("k",), ()))
        self.assertEqual(len(joined(ten, ("more", (), (("a", "b"),) * 24)).data), 24)
        self.assert_no_table(ten, ("more", (), (("a", "b"),) * 25))
        self.assert_no_table(widest(), ("more", (), (("a", "b"),)))
        many = Table("plain", (("x", ("p", "q"), (("p", "q"),) * 24), ("y", (), ())))
        self.assert_no_table(many, ("more", (), (("p", "q"),)))
        self.assertEqual(len(joined(many, ("more", tuple("abcdefgh"), ())).sums), 10)
        self.assert_no_table(many, ("more", tuple("abcdefghi"), ()))


class FindsWrong(Case):
    def test_like_all_sets(self):
        for table in some_tables():
            gone = losses(table)
            for many in range(len(table.names) + 1):
                for names in itertools.combinations(table.names, many):
                    further = [name for name in table.names if name not in names]
                    beside = list(itertools.combinations(further, 2)) if len(further) > 2 else [tuple(further)]
                    whole = [tuple(name for name in table.names if name in names + two) for two in beside]
                    self.assertIs(finds_wrong(table, names), not any(each in gone for each in whole))

    def test_named(self):
        for kind in KINDS:
            five = places(kind, 5)
            self.assertIs(finds_wrong(five, ()), True)
            for name in five.names:
                self.assertIs(finds_wrong(five, (name,)), False)
            self.assertIs(finds_wrong(five, five.names[1:]), False)
            self.assertIs(finds_wrong(five, five.names), False)
            empty = formed("no data", kind)
            for many in range(5):
                self.assertIs(finds_wrong(names=empty.names[::-1][:many], table=empty), True)
            # The third column is needed beside any others; the two others come back together.
            table = Table(kind, (("a", ("p",), ()), ("b", ("q",), ()), ("c", (), (("p", "q"),))))
            self.assertIs(finds_wrong(table, ()), True)
            for names in [("a",), ("b", "c"), ("c", "a", "b")]:
                self.assertIs(finds_wrong(table, names), False)

    def test_a_single_column(self):
        for kind in KINDS:
            self.assertIs(finds_wrong(Table(kind, (("a", ("p",), ()),)), ()), True)
            self.assertIs(finds_wrong(Table(kind, (("a", ("p", "q"), (("p", "q"),)),)), ()), False)
            self.assertIs(finds_wrong(Table(kind, (("a", ("p", "q"), (("p", "q"),)),)), ("a",)), False)


class Arguments(Case):
    def test_not_a_table_comes_first(self):
        for call, others in [(columns_back, (None,)), (strength, ()), (least_losses, ()), (joined, (None,)),
                             (finds_wrong, (None,))]:
            for table in [None, (), "kind bits", Table, SIDE_COLUMNS, Anything()]:
                self.assert_told(NotATable, table, call, table, *others)

    def test_equal_calls(self):
        for table in tables():
            again = Table.read(str(table))
            self.assertEqual(least_losses(table), least_losses(again))
            self.assertEqual(strength(table), strength(again))
            self.assertEqual(finds_wrong(table, ()), finds_wrong(again, ()))
            self.assertEqual(back(table, table.cells), back(again, table.cells))

    def test_names(self):
        for call in [columns_back, finds_wrong]:
            self.assert_told(InvalidNames, 1, call, side(), ("far", "p"))
            self.assert_told(InvalidNames, 2, call, side(), ("far", "left", "far", "left"))

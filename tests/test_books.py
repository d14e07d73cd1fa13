"""Books: points [2], *Books*, [15] and the interface, "pairsums/books.py"; deeds stand in test_books_deeds."""

import inspect
import itertools
import random

from pairsums.books import Book
from pairsums.errors import (Broken, InUse, InvalidIndex, InvalidName, InvalidWish, NotATable, NothingToUndo,
                             UnknownName)
from pairsums.losing import comes_back
from pairsums.reading import fewest_reads
from pairsums.tables import Table
from tests.kit import (FORMS, KINDS, Anything, Case, formed, not_cells, not_integers, not_names, not_tables, not_tuples,
                       places, side, tables, widest)

P, Q, FIRST, SECOND = ("sum", "p"), ("sum", "q"), ("datum", 0), ("datum", 1)
EMPTY = Table("bits", (("full", ("p", "q"), (("p", "q"),)), ("empty", (), ())))


def seen(book):
    """All that a book shows."""
    return book.names, tuple(book[name] for name in book.names), book.wishes, book.changes, len(book)


def book_of(**named):
    book = Book()
    for name, table in named.items():
        book[name] = table
    return book


def put(book, name, table):
    book[name] = table


def got(book, name):
    return book[name]


def holds(table, wish):
    """Whether a wish about this table holds, told by what comes back."""
    word, _, *rest = wish
    if word == "strong":
        losses = itertools.combinations(table.names, min(rest[0], len(table.names)))
        return all(comes_back(table, sum((table.cells_of(name) for name in names), ())) for names in losses)
    if word == "back":
        return comes_back(table, rest[0])
    if word == "columns":
        return comes_back(table, sum((table.cells_of(name) for name in rest[0]), ()))
    reads = fewest_reads(table, rest[0])
    return reads is not None and reads <= rest[1]


class Tables(Case):
    def test_at_first(self):
        book = Book()
        self.assertEqual(seen(book), ((), (), (), 0, 0))
        self.assertIs(bool(book), False)
        self.assert_told(UnknownName, "main", got, book, "main")
        self.assertEqual(vars(Book()).keys(), vars(book).keys())

    def test_put(self):
        book, table = Book(), side()
        self.assertIsNone(book.__setitem__("main", table))
        self.assertIs(book["main"], table)
        self.assertEqual(seen(book), (("main",), (table,), (), 1, 1))
        self.assertIs(bool(book), True)
        book["abcdefgh"] = table
        book["a"] = EMPTY
        self.assertEqual(seen(book), (("a", "abcdefgh", "main"), (EMPTY, table, table), (), 3, 3))
        # In the place of another one, and of the same one.
        book["main"] = EMPTY
        book["a"] = EMPTY
        self.assertEqual(seen(book), (("a", "abcdefgh", "main"), (EMPTY, table, EMPTY), (), 5, 3))

    def test_names_are_ascending(self):
        book = book_of(z=side(), m=side(), ab=side(), a=side(), b=side(), aa=side())
        self.assertEqual(book.names, ("a", "aa", "ab", "b", "m", "z"))
        self.assert_plain(book.names)

    def test_a_book_may_hold_many(self):
        book, table = Book(), side()
        names = ["".join(letters) for letters in itertools.product("abcdefghij", repeat=2)]
        for name in names[::-1]:
            book[name] = table
        self.assertEqual((book.names, len(book), book.changes), (tuple(names), 100, 100))

    def test_in(self):
        book = book_of(main=side(), other=side())
        for name in ("main", "other"):
            self.assertIs(name in book, True)
            self.assertIs(name not in book, False)
        for value in [*not_names(), "mai", "mainn", "left", side(), ("main",), ["main"], {"main"}, Book(), book, 0]:
            self.assertIs(value in book, False)
        for value in [None, "", Anything(), [], "main"]:
            self.assertIs(value in Book(), False)

    def test_values_that_are_no_names_of_the_book(self):
        book = book_of(main=side())
        for value in [*not_names(), *not_integers(), "mai", "mainn", "left", side(), ("main",), ["main"], {"main"}, 0]:
            self.assert_told(UnknownName, value, got, book, value)
            self.assert_told(UnknownName, value, book.drop, value)
            self.assert_told(UnknownName, value, book.drop, name=value)
        self.assertEqual(seen(book), (("main",), (side(),), (), 1, 1))

    def test_wrong_names_and_tables(self):
        book = book_of(main=side())
        before = seen(book)
        for name in not_names():
            for table in [side(), None, "main"]:
                self.assert_told(InvalidName, name, put, book, name, table)
        for table in not_tables():
            for name in ("main", "new"):
                self.assert_told(NotATable, table, put, book, name, table)
        self.assertEqual(seen(book), before)

    def test_drop(self):
        book = book_of(main=side(), other=EMPTY)
        self.assertIsNone(book.drop("main"))
        self.assertEqual(seen(book), (("other",), (EMPTY,), (), 3, 1))
        self.assert_told(UnknownName, "main", book.drop, "main")
        self.assertIs("main" in book, False)
        book.drop(name="other")
        self.assertEqual(seen(book), ((), (), (), 4, 0))
        self.assertIs(bool(book), False)

    def test_truth(self):
        book = book_of(main=places("bits", 5))
        book.wish(("strong", "main", 2))
        self.assertIs(bool(book), True)
        book.lift(0)
        book.drop("main")
        self.assertIs(bool(book), False)
        book.undo()
        self.assertIs(bool(book), True)

    def test_a_book_equals_itself_alone(self):
        book, other = Book(), Book()
        self.assertTrue(book == book and not book != book)
        for value in [other, book_of(main=side()), book.trial(), (), {}, None, 0, False, side(), Anything()]:
            self.assertTrue(book != value and not book == value)
        self.assertIs(bool(book.trial()), True)

    def test_it_is_not_gone_through(self):
        with self.assertRaises(TypeError):
            iter(book_of(main=side()))

    def test_signatures(self):
        found = {"drop": ["name"], "wish": ["wish"], "lift": ["index"], "undo": [], "do_all": ["deeds", "watch"],
                 "trial": [], "tried": ["action"]}
        for name, parameters in found.items():
            self.assertEqual(list(inspect.signature(getattr(Book(), name)).parameters), parameters)
        self.assertEqual(list(inspect.signature(Book).parameters), [])


class Wishes(Case):
    def assert_holds(self, table, wish, expected):
        """That a book with this table takes the wish, or not."""
        book = book_of(first=EMPTY, main=table)
        book.wish(("strong", "first", 0))
        before = seen(book)
        if expected:
            self.assertIsNone(book.wish(wish))
            self.assertIs(book.wishes[1], wish)
            self.assertEqual(seen(book), (*before[:2], (("strong", "first", 0), wish), 4, 2))
        else:
            self.assert_told(Broken, 1, book.wish, wish)
            self.assertEqual(seen(book), before)

    def test_strong(self):
        for table in tables() + [places(kind, prime) for kind in KINDS for prime in (3, 5)]:
            for number in range(len(table.names) + 2):
                self.assert_holds(table, ("strong", "main", number), holds(table, ("strong", "main", number)))
        table = places("bits", 5)
        self.assert_holds(table, ("strong", "main", 2), True)
        self.assert_holds(table, ("strong", "main", 3), False)

    def test_strong_with_more_than_there_are(self):
        alone = Table("plain", (("a", ("p",), ()), ("b", ("q",), ())))
        for number in (0, 1, 2, 3, 100, 10 ** 79):
            self.assert_holds(alone, ("strong", "main", number), True)
            self.assert_holds(side(), ("strong", "main", number), number < 2)
            self.assert_holds(EMPTY, ("strong", "main", number), number == 0)

    def test_back(self):
        chance = random.Random(3)
        for table in tables() + [formed(form, kind) for form in FORMS for kind in ("bits", "plain", 3, 4)]:
            for _ in range(6):
                lost = tuple(chance.sample(table.cells, chance.randint(0, min(5, len(table.cells)))))
                self.assert_holds(table, ("back", "main", lost), comes_back(table, lost))
        self.assert_holds(side(), ("back", "main", ()), True)
        self.assert_holds(side(), ("back", "main", (FIRST, P)), True)
        self.assert_holds(side(), ("back", "main", (FIRST, SECOND)), False)

    def test_back_of_what_are_no_lost_cells(self):
        for lost in not_tuples():
            self.assert_holds(side(), ("back", "main", lost), False)
        for cell in not_cells():
            self.assert_holds(side(), ("back", "main", (cell,)), False)
            self.assert_holds(side(), ("back", "main", (P, cell)), False)
        for lost in [(P, P), (P, FIRST, P), [P], P, (list(P),), (("datum", True),), ((P,),)]:
            self.assert_holds(side(), ("back", "main", lost), False)

    def test_columns(self):
        for table in tables() + [places(kind, 5) for kind in KINDS]:
            for many in range(min(4, len(table.names) + 1)):
                for names in list(itertools.permutations(table.names, many))[::3]:
                    wish = ("columns", "main", names)
                    self.assert_holds(table, wish, holds(table, wish))
        self.assert_holds(side(), ("columns", "main", ()), True)
        self.assert_holds(side(), ("columns", "main", ("far", "right")), True)
        self.assert_holds(side(), ("columns", "main", ("far", "left")), False)
        self.assert_holds(EMPTY, ("columns", "main", ("empty",)), True)

    def test_columns_that_are_not_there(self):
        for name in [*not_names(), "p", "lef", ("left",), ["left"]]:
            self.assert_holds(side(), ("columns", "main", (name,)), False)
            self.assert_holds(side(), ("columns", "main", ("far", name)), False)
        for names in [("far", "far"), ("far", "right", "far"), (("far",),)]:
            self.assert_holds(side(), ("columns", "main", names), False)

    def test_reads(self):
        for table in tables() + [places(kind, 5) for kind in KINDS]:
            for name in table.names:
                fewest = fewest_reads(table, name)
                for number in range(7) if fewest is None else range(max(0, fewest - 2), fewest + 3):
                    wish = ("reads", "main", name, number)
                    self.assert_holds(table, wish, fewest is not None and number >= fewest)
        self.assert_holds(places("bits", 5), ("reads", "main", "ra", 5), True)
        self.assert_holds(places("bits", 5), ("reads", "main", "ra", 4), False)
        self.assert_holds(places("bits", 5), ("reads", "main", "ra", 10 ** 79), True)

    def test_reads_of_a_column_that_cannot_be_read(self):
        for kind in KINDS:
            table = Table(kind, EMPTY.columns)
            for number in (0, 3, 10 ** 79):
                self.assert_holds(table, ("reads", "main", "full", number), False)
            self.assert_holds(table, ("reads", "main", "empty", 0), True)

    def test_reads_of_what_is_not_there(self):
        for name in [*not_names(), "p", "lef", ("left",), ["left"]]:
            self.assert_holds(side(), ("reads", "main", name, 24), False)

    def test_tables_that_are_not_there(self):
        for name in [*not_names(), *not_integers(), "mai", "left", ("main",), ["main"], side()]:
            for wish in [("strong", name, 0), ("back", name, ()), ("columns", name, ()), ("reads", name, "far", 9)]:
                self.assert_holds(side(), wish, False)

    def test_what_has_none_of_the_forms(self):
        wishes = [("strong", "main"), ("strong", "main", 1, 1), ("strong",), (), ("back", "main"), ("columns", "main"),
                  ("back", "main", (), ()), ("columns", "main", (), ()), ("reads", "main", "far"), ("reads", "main", 2),
                  ("reads", "main", "far", 2, 2), ("weak", "main", 1), ("read", "main", "far", 2), ("Strong", "main", 1), ("", "main", 1),
                  ("gone", "main", ()), ("main", "strong", 1), (b"strong", "main", 1), (None, "main", 1),
                  (Anything(), "main", 1), (["strong"], "main", 1), ({}, "main", 0), ("strong main 1",),
                  ["strong", "main", 1], ["back", "main", ()], ["columns", "main", ()], ["reads", "main", "far", 2],
                  (("strong", "main", 1),), ("reads", "main", 2, "far"), ("strong", 1, "main")]
        for number in [*not_integers(), -1, -10 ** 79]:
            wishes += [("strong", "main", number), ("reads", "main", "far", number), ("strong", [], number),
                       ("reads", None, None, number)]
        for names in not_tuples():
            wishes += [("columns", "main", names), ("columns", None, names)]
        wishes += not_tuples() + not_integers() + [side(), "strong", ("strong", "back", "columns", "reads")]
        book = book_of(main=side())
        for wish in wishes:
            self.assert_told(InvalidWish, wish, book.wish, wish)
            self.assert_told(InvalidWish, wish, book.wish, wish=wish)
        self.assertEqual(seen(book), (("main",), (side(),), (), 1, 1))

    def test_order_and_the_same_wish_twice(self):
        book = book_of(main=side())
        wishes = [("reads", "main", "far", 2), ("strong", "main", 1), ("strong", "main", 1), ("columns", "main", ()),
                  ("back", "main", (P,))]
        for wish in wishes:
            book.wish(wish)
        self.assertEqual(book.wishes, tuple(wishes))
        self.assertTrue(all(told is wish for told, wish in zip(book.wishes, wishes)))
        self.assert_told(Broken, 5, book.wish, ("strong", "main", 2))


class Kept(Case):
    """Wishes while tables change."""

    def test_broken_with_the_first(self):
        book = book_of(main=places("bits", 5), other=side())
        for wish in [("strong", "other", 1), ("back", "main", (FIRST,)), ("strong", "main", 2),
                     ("columns", "main", ("ra",)), ("reads", "main", "rb", 5)]:
            book.wish(wish)
        before = seen(book)
        self.assert_told(Broken, 2, put, book, "main", side())
        self.assert_told(Broken, 1, put, book, "main", Table("bits", (("a", ("p",), ()),)))
        self.assert_told(Broken, 0, put, book, "other", EMPTY)
        self.assertEqual(seen(book), before)
        book.lift(2)
        self.assert_told(Broken, 2, put, book, "main", side())
        book.lift(2)
        self.assert_told(Broken, 2, put, book, "main", side())
        book.lift(2)
        book["main"] = side()
        self.assertEqual(book.wishes, (("strong", "other", 1), ("back", "main", (FIRST,))))

    def test_a_table_with_which_all_hold(self):
        book = book_of(main=places("bits", 5))
        book.wish(("strong", "main", 2))
        book.wish(("reads", "main", "ra", 5))
        for kind in KINDS:
            book["main"] = places(kind, 5)
            self.assertEqual(book["main"], places(kind, 5))
        three = (("datum", 1), ("datum", 3), ("datum", 5))
        book["main"] = places("plain", 5)
        book.wish(("back", "main", three))
        for kind in KINDS:
            if kind == "plain" or kind != "bits" and kind % 2:
                book["main"] = places(kind, 5)
            else:
                self.assert_told(Broken, 2, put, book, "main", places(kind, 5))

    def test_all_tables(self):
        wishes = [("strong", "main", 1), ("strong", "main", 2), ("strong", "main", 0), ("reads", "main", "one", 3),
                  ("columns", "main", ("two", "none")), ("back", "main", (("datum", 0), ("sum", "p")))]
        found = [formed(form, kind) for form in FORMS for kind in ("bits", "plain", 3, 4)]
        found = [table for table in found if "p" in table.sums and table.data]
        for first in found[::5]:
            book = book_of(main=first)
            for wish in wishes:
                if holds(first, wish):
                    book.wish(wish)
            for table in found[::3]:
                broken = [at for at, wish in enumerate(book.wishes) if not holds(table, wish)]
                if broken:
                    self.assert_told(Broken, broken[0], put, book, "main", table)
                else:
                    book["main"] = table
                self.assertTrue(all(holds(book["main"], wish) for wish in book.wishes))

    def test_in_use(self):
        book = book_of(main=places("bits", 5), other=side(), free=side())
        for wish in [("strong", "other", 0), ("back", "main", ()), ("reads", "other", "far", 9), ("strong", "main", 0)]:
            book.wish(wish)
        before = seen(book)
        self.assert_told(InUse, 1, book.drop, "main")
        self.assert_told(InUse, 0, book.drop, "other")
        self.assertEqual(seen(book), before)
        book.drop("free")
        book.lift(0)
        self.assert_told(InUse, 1, book.drop, "other")
        self.assert_told(InUse, 0, book.drop, "main")
        book.lift(1)
        book.drop("other")
        self.assertEqual(book.names, ("main",))

    def test_lift(self):
        book = book_of(main=side())
        wishes = [("strong", "main", 0), ("strong", "main", 1), ("columns", "main", ()), ("back", "main", ())]
        for wish in wishes:
            book.wish(wish)
        for index in [*not_integers(), -1, 4, 10 ** 79, -10 ** 79, "0", (0,)]:
            self.assert_told(InvalidIndex, index, book.lift, index)
            self.assert_told(InvalidIndex, index, book.lift, index=index)
        self.assertEqual(book.wishes, tuple(wishes))
        for index in (2, 0, 1, 0):
            self.assertIsNone(book.lift(index))
            del wishes[index]
            self.assertEqual(book.wishes, tuple(wishes))
        self.assert_told(InvalidIndex, 0, book.lift, 0)
        self.assertEqual(book.changes, 9)

    def test_widest(self):
        book = book_of(main=widest("plain"))
        for number in range(9):
            if holds(widest("plain"), ("strong", "main", number)):
                book.wish(("strong", "main", number))
            else:
                self.assert_told(Broken, len(book.wishes), book.wish, ("strong", "main", number))


class Undo(Case):
    def assert_nothing_to_undo(self, book):
        before = seen(book)
        with self.assertRaises(NothingToUndo) as held:
            book.undo()
        self.assertEqual(vars(held.exception), {})
        self.assertEqual(seen(book), before)

    def test_each_change(self):
        book = Book()
        self.assert_nothing_to_undo(book)
        states = [seen(book)]
        for call, passed in [(put, (book, "main", side())), (put, (book, "main", side())),
                             (book.wish, (("strong", "main", 1),)), (put, (book, "other", EMPTY)),
                             (book.wish, (("strong", "main", 0),)), (book.lift, (0,)),
                             (put, (book, "main", EMPTY)), (book.drop, ("other",)), (book.lift, (0,)),
                             (book.drop, ("main",))]:
            call(*passed)
            states.append(seen(book))
        self.assertEqual([state[3] for state in states], list(range(11)))
        for state in states[-2::-1]:
            self.assertIsNone(book.undo())
            self.assertEqual(seen(book), state)
        self.assert_nothing_to_undo(book)

    def test_what_raised_no_change(self):
        book = book_of(main=side())
        book.wish(("strong", "main", 1))
        for error, call, passed in [(InvalidName, put, (book, "", side())), (Broken, put, (book, "main", EMPTY)),
                                    (UnknownName, book.drop, ("other",)), (InUse, book.drop, ("main",)),
                                    (InvalidWish, book.wish, (None,)), (Broken, book.wish, (("strong", "main", 2),)),
                                    (InvalidIndex, book.lift, (1,)), (NotATable, put, (book, "main", None))]:
            with self.assertRaises(error):
                call(*passed)
        self.assertEqual(book.changes, 2)
        book.undo()
        book.undo()
        self.assertEqual(seen(book), ((), (), (), 0, 0))

    def test_other_changes_behind_it(self):
        book = book_of(main=side(), other=EMPTY)
        book.undo()
        book["new"] = EMPTY
        self.assertEqual((book.names, book.changes), (("main", "new"), 2))
        book.undo()
        book.undo()
        self.assert_nothing_to_undo(book)

    def test_two_books(self):
        table = side()
        one, other = book_of(main=table), book_of(main=table)
        one.wish(("strong", "main", 1))
        other.drop("main")
        self.assertEqual((one.names, one.wishes, one.changes), (("main",), (("strong", "main", 1),), 2))
        self.assertEqual((other.names, other.wishes, other.changes), ((), (), 2))
        self.assertEqual(Book().names, ())

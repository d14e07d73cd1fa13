"""Several deeds at once, and trials of books: the interface, "pairsums/books.py"."""

import inspect

from pairsums.books import Book
from pairsums.errors import (Broken, InUse, InvalidDeeds, InvalidIndex, InvalidName, InvalidWish, NotATable,
                             NothingToUndo, UnknownName)
from tests.kit import Anything, Case, not_integers, not_names, not_tables, not_tuples, places, side
from tests.test_books import EMPTY, book_of, put, seen

FIVE = places("bits", 5)
PUT = ("put", "main", FIVE)
STRONG = ("wish", ("strong", "main", 2))


class Halt(BaseException):
    """What no handler for usual errors catches."""


def some_book():
    """A book with a past: two tables and two wishes, and one more that was taken back."""
    book = book_of(main=FIVE, other=side())
    book.wish(("strong", "main", 2))
    book.wish(("reads", "other", "far", 2))
    book.lift(1)
    book.undo()
    return book


def past_of(book):
    """All that a book shows while its changes are taken back, which leaves it at its beginning."""
    found = [seen(book)]
    while book.changes:
        book.undo()
        found.append(seen(book))
    return found


class DoAll(Case):
    def test_all_done(self):
        book = Book()
        told = book.do_all(PUT, STRONG, ("put", "other", side()), ("wish", ("back", "other", ())), ("lift", 1),
                           ("drop", "other"))
        self.assertEqual(told, 6)
        self.assertIs(type(told), int)
        self.assertEqual(seen(book), (("main",), (FIVE,), (("strong", "main", 2),), 6, 1))

    def test_none(self):
        book = some_book()
        before = seen(book)
        self.assertEqual(book.do_all(), 0)
        self.assertEqual(book.do_all(watch=None), 0)
        self.assertEqual(seen(book), before)

    def test_each_can_be_taken_back_by_itself(self):
        book, one_by_one = some_book(), some_book()
        deeds = [("put", "main", FIVE), ("wish", ("strong", "main", 1)), ("lift", 0), ("put", "new", EMPTY),
                 ("drop", "new")]
        states = [seen(one_by_one)]
        for deed in deeds:
            one_by_one.do_all(deed)
            states.append(seen(one_by_one))
        self.assertEqual(book.do_all(*deeds), 5)
        for state in states[::-1]:
            self.assertEqual(seen(book), state)
            book.undo()

    def test_the_same_as_the_methods(self):
        book, other = some_book(), some_book()
        book.do_all(("put", "x", EMPTY), ("wish", ("columns", "x", ("empty",))), ("lift", 1), ("drop", "other"))
        other["x"] = EMPTY
        other.wish(("columns", "x", ("empty",)))
        other.lift(1)
        other.drop("other")
        self.assertEqual(past_of(book), past_of(other))

    def test_one_that_fails(self):
        good = [("put", "new", EMPTY), ("wish", ("columns", "new", ("empty",)))]
        bad = [(InvalidName, "A", ("put", "A", side())), (NotATable, None, ("put", "new", None)),
               (Broken, 0, ("put", "main", side())), (UnknownName, "b", ("drop", "b")), (InUse, 0, ("drop", "main")),
               (InUse, 2, ("drop", "new")), (InvalidWish, None, ("wish", None)),
               (Broken, 3, ("wish", ("strong", "new", 1))), (Broken, 2, ("put", "new", side())),
               (InvalidIndex, 3, ("lift", 3)), (InvalidIndex, -1, ("lift", -1))]
        for error, value, deed in bad:
            for behind in [[], [("lift", 0)], [("lift", 99)]]:
                book = some_book()
                before = seen(book)
                self.assert_told(error, value, book.do_all, *good, deed, *behind)
                self.assertEqual(seen(book), before)
                self.assertEqual(past_of(book), past_of(some_book()))

    def test_the_first_that_fails(self):
        book = some_book()
        self.assert_told(UnknownName, "x", book.do_all, ("drop", "x"), ("drop", "y"), ("lift", 99))
        self.assert_told(UnknownName, "x", book.do_all, PUT, ("drop", "x"), ("wish", None), PUT)

    def test_errors_of_any_values(self):
        book = some_book()
        before = seen(book)
        for name in not_names():
            self.assert_told(InvalidName, name, book.do_all, PUT, ("put", name, FIVE))
            self.assert_told(UnknownName, name, book.do_all, PUT, ("drop", name))
        for table in not_tables():
            self.assert_told(NotATable, table, book.do_all, PUT, ("put", "new", table))
        for index in not_integers():
            self.assert_told(InvalidIndex, index, book.do_all, PUT, ("lift", index))
        for wish in not_tuples():
            self.assert_told(InvalidWish, wish, book.do_all, PUT, ("wish", wish))
        self.assertEqual(seen(book), before)

    def test_what_is_no_deed(self):
        seen_by = []
        wrong = [("put",), ("put", "main"), ("put", "main", FIVE, FIVE), ("drop",), ("drop", "main", "main"), ("wish",),
                 ("wish", "strong", "main", 2), ("lift",), ("lift", 0, 0), (), ("undo",), ("undo", 0), ("", "main"),
                 ("Put", "main", FIVE), (b"drop", "main"), (None, "main"), (Anything(), "main"), (["drop"], "main"),
                 ("do_all", ()), ["put", "main", FIVE], ["drop", "main"], (PUT,), ("main", "drop"), "drop", "put",
                 side(), *not_tuples(), *not_integers()]
        for deed in wrong:
            book = some_book()
            before = seen(book)
            self.assert_told(InvalidDeeds, 0, book.do_all, deed)
            self.assert_told(InvalidDeeds, 2, book.do_all, PUT, ("drop", "nothing"), deed, watch=seen_by.append)
            self.assert_told(InvalidDeeds, 1, book.do_all, STRONG, deed, deed, PUT, watch=seen_by.append)
            self.assertEqual(seen(book), before)
        self.assertEqual(seen_by, [])

    def test_a_list_of_deeds_is_no_deed(self):
        book = Book()
        self.assert_told(InvalidDeeds, 0, book.do_all, [PUT, STRONG])
        self.assert_told(InvalidDeeds, 0, book.do_all, (PUT, STRONG))

    def test_watch_sees_the_book_behind_each_deed(self):
        book, found = some_book(), []

        def watch(held):
            self.assertIs(held, book)
            found.append(seen(held))

        deeds = [("put", "new", EMPTY), ("drop", "new"), ("lift", 0)]
        self.assertEqual(book.do_all(*deeds, watch=watch), 3)
        expected, other = [], some_book()
        for deed in deeds:
            other.do_all(deed)
            expected.append(seen(other))
        self.assertEqual(found, expected)
        self.assertEqual(book.do_all(watch=watch), 0)
        self.assertEqual(len(found), 3)

    def test_watch_sees_no_deed_that_fails(self):
        book, found = some_book(), []
        self.assert_told(UnknownName, "x", book.do_all, ("put", "new", EMPTY), ("drop", "x"), ("drop", "new"),
                         watch=lambda held: found.append(held.names))
        self.assertEqual(found, [("main", "new", "other")])

    def test_a_watch_that_raises(self):
        for many in (1, 2, 3):
            for error in (ValueError, Halt, KeyboardInterrupt, Broken):
                book = some_book()
                before, raised, found = seen(book), error("told"), []

                def watch(held):
                    found.append(held.changes)
                    if len(found) == many:
                        raise raised

                with self.assertRaises(error) as told:
                    book.do_all(("put", "new", EMPTY), ("drop", "new"), ("lift", 0), watch=watch)
                self.assertIs(told.exception, raised)
                self.assertEqual((len(found), seen(book)), (many, before))
                self.assertEqual(past_of(book), past_of(some_book()))

    def test_a_watch_with_a_trial(self):
        book, found = some_book(), []

        def watch(held):
            with held.trial():
                held.do_all(("put", "new", side()), ("lift", 0))
                found.append(held.changes)

        self.assertEqual(book.do_all(("lift", 1), ("put", "x", EMPTY), watch=watch), 2)
        self.assertEqual((found, book.names, book.changes), ([7, 8], ("main", "other", "x"), 6))

    def test_signature(self):
        parameters = inspect.signature(Book.do_all).parameters
        self.assertEqual([(name, each.kind.name, each.default) for name, each in parameters.items()][1:],
                         [("deeds", "VAR_POSITIONAL", inspect.Parameter.empty), ("watch", "KEYWORD_ONLY", None)])


class Trials(Case):
    def setUp(self):
        self.book = some_book()
        self.before = seen(self.book)

    def tearDown(self):
        """Each test leaves the book as it was."""
        self.assertEqual(seen(self.book), self.before)
        self.assertEqual(past_of(self.book), past_of(some_book()))
        self.assertRaises(NothingToUndo, self.book.undo)

    def change(self, book):
        book.lift(1)
        book.drop("other")
        book["new"] = EMPTY
        book["main"] = places("plain", 5)
        book.wish(("columns", "new", ("empty",)))
        self.assertEqual((book.names, book.changes), (("main", "new"), 9))

    def test_left_by_its_end(self):
        with self.book.trial() as held:
            self.assertIs(held, self.book)
            self.change(held)
            self.assertNotEqual(seen(self.book), self.before)

    def test_left_by_an_exception(self):
        for error in (ValueError, Halt, KeyboardInterrupt, StopIteration):
            raised = error("told")
            with self.assertRaises(error) as held:
                with self.book.trial():
                    self.change(self.book)
                    raise raised
            self.assertIs(held.exception, raised)
            self.assertEqual(seen(self.book), self.before)
        with self.assertRaises(Broken):
            with self.book.trial():
                self.book.lift(1)
                put(self.book, "main", side())

    def test_left_by_a_return_and_a_break(self):
        def returned():
            with self.book.trial() as book:
                self.change(book)
                return book.names

        self.assertEqual(returned(), ("main", "new"))
        self.assertEqual(seen(self.book), self.before)
        while True:
            with self.book.trial() as book:
                self.change(book)
                break

    def test_entered_several_times_and_within_itself(self):
        trial = self.book.trial()
        for _ in range(2):
            with trial as book:
                book.lift(0)
                first = seen(book)
                with trial:
                    self.assertEqual(book.wishes, (("reads", "other", "far", 2),))
                    book.lift(0)
                    with trial:
                        book.drop("main")
                        book.drop("other")
                        self.assertIs(bool(book), False)
                    self.assertEqual((book.names, book.wishes), (("main", "other"), ()))
                self.assertEqual(seen(book), first)
            self.assertEqual(seen(self.book), self.before)

    def test_trials_of_two_books(self):
        other = book_of(a=side())
        with self.book.trial() as book:
            book.lift(0)
            with other.trial():
                other.drop("a")
                book.lift(0)
            self.assertEqual((other.names, other.changes), (("a",), 1))
            self.assertEqual(book.wishes, ())
            other["b"] = EMPTY
        self.assertEqual((other.names, other.changes), (("a", "b"), 2))

    def test_undo_beyond_its_beginning(self):
        with self.book.trial() as book:
            for _ in range(4):
                book.undo()
            self.assertRaises(NothingToUndo, book.undo)
            book["z"] = side()
            self.assertEqual((book.names, book.wishes, book.changes), (("z",), (), 1))

    def test_do_all_beside_it(self):
        with self.book.trial() as book:
            self.assertEqual(book.do_all(("lift", 1), ("drop", "other"), ("put", "other", EMPTY)), 3)
            first = seen(book)
            self.assert_told(UnknownName, "x", book.do_all, ("lift", 0), ("drop", "x"))
            self.assertEqual(seen(book), first)
            book.undo()
            self.assertEqual(book.names, ("main",))

    def test_tried(self):
        thing = object()
        for value in [thing, None, (), self.book]:
            self.assertIs(self.book.tried(lambda held: (held.lift(0), value)[1]), value)
            self.assertEqual(seen(self.book), self.before)
        self.assertIs(self.book.tried(lambda held: held), self.book)
        self.assertEqual(self.book.tried(action=lambda held: held.do_all(("lift", 0), ("lift", 0))), 2)
        for raised in [KeyError("x"), Halt(), Broken(3)]:
            def action(held, error=raised):
                self.change(held)
                raise error

            with self.assertRaises(type(raised)) as told:
                self.book.tried(action)
            self.assertIs(told.exception, raised)
            self.assertEqual(seen(self.book), self.before)

    def test_tried_within_itself(self):
        def inner(held):
            held.lift(0)
            return held.wishes

        def outer(held):
            held.lift(0)
            return held.tried(inner), held.wishes

        self.assertEqual(self.book.tried(outer), ((), (("reads", "other", "far", 2),)))

"""Trials of desks: the interface, "pairsums/desks.py"."""

from pairsums.desks import Desk
from pairsums.errors import NothingToUndo, NotReady
from tests.kit import Case, places, side
from tests.test_desks import FIRST, P, Q, SECOND, seen


class Halt(BaseException):
    """What no handler for usual errors catches."""


def desk_with_past():
    """A desk with changes that can be taken back, and cells lost."""
    desk = Desk(side(), (5, -2))
    desk.put(0, 6)
    desk.lose((Q,))
    return desk


def past_of(desk):
    """All that a desk shows while its changes are taken back, which leaves it at its beginning."""
    found = [seen(desk)]
    while desk.changes:
        desk.undo()
        found.append(seen(desk))
    return found


class Trials(Case):
    def setUp(self):
        self.desk = desk_with_past()
        self.before = seen(self.desk)

    def tearDown(self):
        """Each test leaves the desk as it was."""
        self.assertEqual(seen(self.desk), self.before)
        self.assertEqual(past_of(self.desk), past_of(desk_with_past()))
        self.assertRaises(NothingToUndo, self.desk.undo)

    def change(self, desk):
        self.assertEqual(desk.mend(), (Q,))
        desk.put(1, 9)
        desk.lose_column("left")
        self.assertEqual((desk.lost, desk.changes), ((P, FIRST), 5))

    def test_left_by_its_end(self):
        with self.desk.trial() as held:
            self.assertIs(held, self.desk)
            self.change(held)
            self.assertNotEqual(seen(self.desk), self.before)

    def test_without_changes(self):
        with self.desk.trial():
            self.assertEqual(seen(self.desk), self.before)

    def test_left_by_an_exception(self):
        for error in (ValueError, Halt, KeyboardInterrupt, StopIteration):
            raised = error("told")
            with self.assertRaises(error) as held:
                with self.desk.trial():
                    self.change(self.desk)
                    raise raised
            self.assertIs(held.exception, raised)
            self.assertEqual(seen(self.desk), self.before)

    def test_left_by_an_error_of_the_desk(self):
        with self.assertRaises(NotReady):
            with self.desk.trial() as desk:
                desk.lose((P,))
                desk.put(0, 1)

    def test_left_by_a_return_a_break_and_a_continue(self):
        def returned():
            with self.desk.trial() as desk:
                self.change(desk)
                return desk.cells

        self.assertEqual(returned(), (None, None, 15, 9))
        self.assertEqual(seen(self.desk), self.before)
        for leave in (True, False):
            for _ in range(2):
                with self.desk.trial() as desk:
                    self.change(desk)
                    if leave:
                        break
                    continue
            self.assertEqual(seen(self.desk), self.before)

    def test_entered_several_times(self):
        trial = self.desk.trial()
        for value in (1, 2, 3):
            with trial as desk:
                desk.mend()
                desk.put(0, value)
                self.assertEqual(desk.changes, 4)
            self.assertEqual(seen(self.desk), self.before)

    def test_entered_behind_other_changes(self):
        # The desk comes back to where it was when the rows began, not when the trial was made.
        trial = self.desk.trial()
        self.desk.mend()
        self.desk.put(0, 1)
        middle = seen(self.desk)
        with trial:
            self.desk.undo()
            self.desk.lose((P,))
        self.assertEqual(seen(self.desk), middle)
        self.desk.undo()
        self.desk.undo()

    def test_within_itself(self):
        trial = self.desk.trial()
        with trial as desk:
            desk.mend()
            first = seen(desk)
            with trial as again:
                self.assertIs(again, desk)
                desk.put(0, 1)
                second = seen(desk)
                with trial:
                    desk.undo()
                    desk.undo()
                    desk.undo()
                self.assertEqual(seen(desk), second)
            self.assertEqual(seen(desk), first)
            with self.assertRaises(Halt):
                with trial:
                    desk.lose((P,))
                    raise Halt()
            self.assertEqual(seen(desk), first)

    def test_one_trial_within_another(self):
        with self.desk.trial() as desk:
            desk.mend()
            first = seen(desk)
            with desk.trial() as again:
                again.put(0, 1)
            self.assertEqual(seen(desk), first)

    def test_trials_of_two_desks(self):
        other = Desk(side(), (1, 2))
        other.put(0, 3)
        at_first = seen(other)
        with self.desk.trial() as desk:
            desk.mend()
            mine = seen(desk)
            with other.trial():
                other.lose((P,))
                desk.put(0, 8)
                self.assertEqual(other.lost, (P,))
            self.assertEqual(seen(other), at_first)
            # The other desk's trial leaves this one as it is.
            self.assertNotEqual(seen(desk), mine)
            self.assertEqual(desk.cells, (6, 8, 6, -2))
            other.lose((Q,))
        self.assertEqual(seen(other), ((Q,), (5, 3, None, 2), 2, (Q,)))

    def test_undo_beyond_its_beginning(self):
        with self.desk.trial() as desk:
            desk.undo()
            desk.undo()
            self.assertEqual(seen(desk), ((), (3, 5, 3, -2), 0, ()))
            self.assertRaises(NothingToUndo, desk.undo)
            desk.put(1, 4)
            self.assertEqual((desk.cells, desk.changes), ((9, 5, 9, 4), 1))

    def test_undo_beyond_its_beginning_and_other_changes(self):
        with self.desk.trial() as desk:
            desk.undo()
            desk.lose((SECOND, FIRST))
            self.assertEqual((desk.lost, desk.changes), ((FIRST, SECOND), 2))
            desk.undo()
            desk.undo()
            desk.undo() if desk.changes else None

    def test_not_entered(self):
        self.desk.trial()


class Tried(Case):
    def test_what_is_returned(self):
        desk = desk_with_past()
        before = seen(desk)
        thing = object()
        for value in [thing, None, 0, (), desk]:
            self.assertIs(desk.tried(lambda held: (held.mend(), value)[1]), value)
            self.assertEqual(seen(desk), before)
        self.assertIs(desk.tried(lambda held: held), desk)
        self.assertEqual(desk.tried(action=Desk.mend), (Q,))
        self.assertEqual(seen(desk), before)
        self.assertEqual(past_of(desk), past_of(desk_with_past()))

    def test_what_is_raised(self):
        desk = desk_with_past()
        before = seen(desk)
        for raised in [KeyError("x"), Halt(), NotReady(P)]:
            def action(held, error=raised):
                held.mend()
                held.put(0, 0)
                raise error

            with self.assertRaises(type(raised)) as told:
                desk.tried(action)
            self.assertIs(told.exception, raised)
            self.assertEqual(seen(desk), before)

    def test_within_itself(self):
        desk = Desk(places("plain", 5), (1, 2, 3, 4, 5, 6))
        before = seen(desk)

        def inner(held):
            held.lose_column("rb")
            return held.lost

        def outer(held):
            held.lose_column("ra")
            told = held.tried(inner)
            return told, held.lost

        ra, rb = desk.table.cells_of("ra"), desk.table.cells_of("rb")
        self.assertEqual(desk.tried(outer), (ra + rb, ra))
        self.assertEqual(seen(desk), before)

    def test_what_can_be_tried(self):
        # How many cells of a column are hoped for behind one more loss.
        desk = Desk(places("bits", 5), (1, 2, 3, 4, 5, 6))
        desk.lose_column("ra")

        def hoped(name):
            def action(held):
                held.lose_column(name)
                return len(held.hope())

            return desk.tried(action)

        self.assertEqual([hoped(name) for name in desk.table.names[1:]], [4, 4, 4, 4])
        self.assertEqual(desk.lost, desk.table.cells_of("ra"))

"""Books: tables under names, with wishes that hold after each change."""

from pairsums.basics import is_between, is_name
from pairsums.checks import check_table
from pairsums.errors import (Broken, InUse, InvalidDeeds, InvalidIndex, InvalidName, InvalidWish, NothingToUndo,
                             UnknownName)
from pairsums.trials import Moment, Trial
from pairsums.wishes import does_hold, is_wish

# The words of deeds, and how many elements a deed with each has.
DEEDS = {"put": 3, "drop": 2, "wish": 2, "lift": 2}


class Book:
    """Tables under names, and wishes in an order.

    A moment of a book holds the tables, told by their names, and the wishes. Neither is ever changed: a change of the
    book makes others.
    """

    def __init__(self):
        self.moment = Moment(({}, ()), None)

    def __eq__(self, other):
        return self is other

    def __setitem__(self, at, worth):
        if not is_name(at):
            raise InvalidName(at)
        check_table(worth)
        tables, wishes = self.moment.held
        changed = {**tables, at: worth}
        for index, wish in enumerate(wishes):
            if wish[1] == at and not does_hold(wish, changed):
                raise Broken(index)
        self._go_on(changed, wishes)

    def __getitem__(self, at):
        tables, _ = self.moment.held
        if not isinstance(at, str) or at not in tables:
            raise UnknownName(at)
        return tables[at]

    def __contains__(self, x):
        tables, _ = self.moment.held
        return isinstance(x, str) and x in tables

    def __iter__(self):
        raise TypeError("a book is not gone through")

    def __len__(self):
        tables, _ = self.moment.held
        return len(tables)

    def __bool__(self):
        tables, _ = self.moment.held
        return bool(tables)

    @property
    def names(self):
        tables, _ = self.moment.held
        return tuple(sorted(list(tables)))

    @property
    def wishes(self):
        _, wishes = self.moment.held
        return wishes

    @property
    def changes(self):
        return self.moment.number

    def drop(self, name):
        """Takes a name away."""
        tables, wishes = self.moment.held
        if name not in self:
            raise UnknownName(name)
        for index, wish in enumerate(wishes):
            if wish[1] == name:
                raise InUse(index)
        self._go_on({other: tables[other] for other in tables if other != name}, wishes)

    def wish(self, wish):
        """Puts a wish behind the others."""
        if not is_wish(wish):
            raise InvalidWish(wish)
        tables, wishes = self.moment.held
        # All others hold.
        if not does_hold(wish, tables):
            raise Broken(len(wishes))
        self._go_on(tables, (*wishes, wish))

    def lift(self, index):
        """Takes a wish away."""
        tables, wishes = self.moment.held
        if not is_between(index, 0, len(wishes) - 1):
            raise InvalidIndex(index)
        self._go_on(tables, wishes[:index] + wishes[index + 1:])

    def undo(self):
        """Takes back the last change."""
        if self.moment.before is None:
            raise NothingToUndo()
        self.moment = self.moment.before

    def do_all(self, *deeds, watch=None):
        """Does all deeds or, if an error comes out, none; `watch` is called with the book behind each deed."""
        for index, deed in enumerate(deeds):
            if not is_deed(deed):
                raise InvalidDeeds(index)
        end = self.moment
        try:
            for deed in deeds:
                self._do(deed)
                if watch is not None:
                    watch(self)
            end = self.moment
        finally:
            self.moment = end
        return len(deeds)

    def trial(self):
        """For a `with` statement, behind whose rows the book is as it was before them."""
        return Trial(self)

    def tried(self, action):
        """What the action returns if it is called with the book within a trial."""
        with self.trial() as book:
            return action(book)

    def _do(self, deed):
        word, what = deed[0], deed[1]
        if word == "put":
            self[what] = deed[2]
        elif word == "drop":
            self.drop(what)
        elif word == "wish":
            self.wish(what)
        else:
            self.lift(what)

    def _go_on(self, tables, wishes):
        self.moment = Moment((tables, wishes), self.moment)


def is_deed(deed):
    """Whether this, which may be anything, is a tuple of one of the words and as many elements."""
    if not isinstance(deed, tuple) or not deed or not isinstance(deed[0], str):
        return False
    return DEEDS.get(deed[0]) == len(deed)

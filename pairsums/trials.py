"""Moments of what changes, and trials, behind which it is as it was."""


class Moment:
    """What a desk or a book holds at a time, and the moment before the change that led to it, None for the first one.

    A moment never changes, so that one can go back to it.
    """

    def __init__(self, held, before):
        self.held = held
        self.before = before
        self.number = 0 if before is None else before.number + 1


class Trial:
    """For a `with` statement: when its rows end, its owner, a desk or a book, is as it was when they began."""

    def __init__(self, owner):
        self._owner = owner
        self._entered = None

    def __eq__(self, other):
        return self is other

    def __enter__(self):
        # One trial may be entered within itself; the moment to go back to last is that of the first time.
        self._entered = Moment(self._owner.moment, self._entered)
        return self._owner

    def __exit__(self, kind, value, trace):
        self._owner.moment = self._entered.held
        self._entered = self._entered.before

"""Desks, at which data change, and cells are lost and come back."""

from pairsums.basics import is_between, is_integer
from pairsums.checks import check_lost, check_table
from pairsums.errors import InvalidNumber, InvalidValues, NotBack, NothingToUndo, NotLost, NotReady, UnknownName
from pairsums.kinds import is_value
from pairsums.limits import MOST_VALUE
from pairsums.losing import back
from pairsums.tables import cells_told, check_values, is_cell
from pairsums.trials import Moment, Trial


class Desk:
    """The right cell values of a table, some of them lost.

    A moment of a desk holds the data values and the lost cells, in the order of the cells. What is lost keeps its
    value there, since no datum changes while a cell is lost: it is the value with which the cell can come back.
    """

    def __init__(self, table, values):
        check_table(table)
        check_values(table, values)
        self._table = table
        self.moment = Moment((values, ()), None)

    def __eq__(self, other):
        return self is other

    @property
    def table(self):
        return self._table

    @property
    def lost(self):
        _, lost = self.moment.held
        return lost

    @property
    def cells(self):
        values, lost = self.moment.held
        told = cells_told(self._table, values)
        return tuple([None if cell in lost else value for cell, value in zip(self._table.cells, told)])

    @property
    def changes(self):
        return self.moment.number

    def put(self, number, value):
        """A datum gets this value; returns the cells whose value is another one now."""
        table = self._table
        if not is_between(number, 0, len(table.data) - 1):
            raise InvalidNumber(number)
        if not is_value(table.kind, value, MOST_VALUE):
            raise InvalidValues(number)
        values, lost = self.moment.held
        if lost:
            raise NotReady(lost[0])
        changed = values[:number] + (value,) + values[number + 1:]
        self._go_on(changed, lost)
        before, now = cells_told(table, values), cells_told(table, changed)
        return tuple([cell for cell, old, new in zip(table.cells, before, now) if old != new])

    def lose(self, lost):
        """These cells are lost, too."""
        check_lost(self._table, lost, self.lost)
        self._lose(lost)

    def lose_column(self, name):
        """All cells of this column are lost, those among them that are lost already stay so."""
        self._lose(self._table.cells_of(name))

    def mend(self):
        """All lost cells that come back do; returns them."""
        found = self.hope()
        values, lost = self.moment.held
        self._go_on(values, tuple([cell for cell in lost if cell not in found]))
        return found

    def give(self, cell, value):
        """A lost cell gets its value from outside."""
        if not is_cell(self._table, cell):
            raise UnknownName(cell)
        values, lost = self.moment.held
        if cell not in lost:
            raise NotLost(cell)
        had = cells_told(self._table, values)[self._table.cells.index(cell)]
        if not is_integer(value) or value != had:
            raise NotBack(value)
        self._go_on(values, tuple([other for other in lost if other != cell]))

    def hope(self):
        """The lost cells that would come back now."""
        return back(self._table, self.lost)

    def undo(self):
        """Takes back the last change."""
        if self.moment.before is None:
            raise NothingToUndo()
        self.moment = self.moment.before

    def trial(self):
        """For a `with` statement, behind whose rows the desk is as it was before them."""
        return Trial(self)

    def tried(self, action):
        """What the action returns if it is called with the desk within a trial."""
        with self.trial() as desk:
            return action(desk)

    def _go_on(self, values, lost):
        self.moment = Moment((values, lost), self.moment)

    def _lose(self, more):
        values, lost = self.moment.held
        self._go_on(values, tuple([cell for cell in self._table.cells if cell in lost or cell in more]))

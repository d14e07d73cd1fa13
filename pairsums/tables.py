"""Tables: columns of sums and data in one kind."""

from pairsums.basics import is_integer
from pairsums.errors import InvalidCells, InvalidColumns, InvalidKind, InvalidText, InvalidValues, UnknownName
from pairsums.kinds import is_kind, is_value, put_together
from pairsums.layout import cells_by_column, check_columns, columns_of_lines, kind_of_line, lines_of
from pairsums.limits import MOST_SUM, MOST_VALUE


class Table:
    """A table; it never changes."""

    def __init__(self, kind, columns):
        if not is_kind(kind):
            raise InvalidKind(kind)
        check_columns(columns)
        self._kind = kind
        self._columns = columns
        self._names = tuple([name for name, sums, data in columns])
        self._sums = tuple([word for name, sums, data in columns for word in sums])
        self._data = tuple([pair for name, sums, data in columns for pair in data])
        self._cells_of = cells_by_column(columns)
        self._cells = tuple([cell for name in self._names for cell in self._cells_of[name]])
        self._column_of = {cell: name for name in self._names for cell in self._cells_of[name]}
        self._lines = lines_of(kind, columns)

    @staticmethod
    def read(text):
        """The table with this text."""
        table = table_with(text)
        if table is None:
            raise InvalidText(text)
        return table

    @property
    def kind(self):
        return self._kind

    @property
    def columns(self):
        return self._columns

    @property
    def names(self):
        return self._names

    @property
    def sums(self):
        return self._sums

    @property
    def data(self):
        return self._data

    @property
    def cells(self):
        return self._cells

    def cells_of(self, name):
        """The cells of a column."""
        if not isinstance(name, str) or name not in self._cells_of:
            raise UnknownName(name)
        return self._cells_of[name]

    def column_of(self, cell):
        """The name of the column of a cell."""
        if not is_cell(self, cell):
            raise UnknownName(cell)
        return self._column_of[cell]

    def full(self, values):
        """The right cell values with these data values."""
        check_values(self, values)
        return cells_told(self, values)

    def is_right(self, cells):
        """Whether each sum has the value that the data give it."""
        check_cells(self, cells)
        return cells == cells_told(self, data_among(self, cells))

    def __eq__(self, other):
        return isinstance(other, Table) and self._lines == other._lines

    def __str__(self):
        return "\n".join(self._lines)

    def __repr__(self):
        return f"Table of {len(self._names)} columns, {len(self._sums)} sums and {len(self._data)} data"


def table_with(text):
    """The table with this text, which may be anything; None if there is none."""
    if not isinstance(text, str):
        return None
    lines = text.split("\n")
    try:
        table = Table(kind_of_line(lines[0]), columns_of_lines(lines[1:]))
    except (InvalidKind, InvalidColumns):
        return None
    # The lines are read generously: a sum behind data and a needless zero are found here.
    return table if str(table) == text else None


def is_cell(table, cell):
    """Whether this, which may be anything, is a cell of the table."""
    if not isinstance(cell, tuple) or len(cell) != 2:
        return False
    what, which = cell
    if not isinstance(what, str):
        return False
    if what == "sum":
        return isinstance(which, str) and which in table.sums
    return what == "datum" and is_integer(which) and 0 <= which < len(table.data)


def data_among(table, cells):
    """The values that the data have among cell values."""
    return tuple([value for (what, _), value in zip(table.cells, cells) if what == "datum"])


def cells_told(table, values):
    """The right cell values with these data values, which may be beyond the bounds here."""
    told = {name: put_together(table.kind, [value for pair, value in zip(table.data, values) if name in pair])
            for name in table.sums}
    return tuple([told[which] if what == "sum" else values[which] for what, which in table.cells])


def check_values(table, values):
    """Raises InvalidValues if these, which may be anything, are no data values of the table."""
    if not isinstance(values, tuple) or len(values) != len(table.data):
        raise InvalidValues(None)
    for index, value in enumerate(values):
        if not is_value(table.kind, value, MOST_VALUE):
            raise InvalidValues(index)


def check_cells(table, cells):
    """Raises InvalidCells if these, which may be anything, are no cell values of the table."""
    if not isinstance(cells, tuple) or len(cells) != len(table.cells):
        raise InvalidCells(None)
    for index, (cell, value) in enumerate(zip(table.cells, cells)):
        bound = MOST_VALUE if cell[0] == "datum" else MOST_SUM
        if not is_value(table.kind, value, bound):
            raise InvalidCells(index)

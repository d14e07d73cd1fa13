"""The errors of the arguments that occur in several modules."""

from pairsums.errors import InvalidLost, InvalidNames, NotATable, NotLost
from pairsums.tables import Table, is_cell


def check_table(table):
    if not isinstance(table, Table):
        raise NotATable(table)


def check_lost(table, lost, gone=()):
    """Raises InvalidLost if these, which may be anything, are no lost cells of the table, or some are gone before."""
    if not isinstance(lost, tuple):
        raise InvalidLost(None)
    before = {cell: True for cell in gone}
    for index, cell in enumerate(lost):
        if not is_cell(table, cell) or cell in before:
            raise InvalidLost(index)
        before[cell] = True


def check_one_lost(table, lost, cell):
    """Raises NotLost if this, which may be anything, is none of the lost cells."""
    # What is no cell may equal one: ("datum", True) equals ("datum", 1).
    if not is_cell(table, cell) or cell not in lost:
        raise NotLost(cell)


def check_names(table, names):
    """Raises InvalidNames if these, which may be anything, are no different columns of the table."""
    if not isinstance(names, tuple):
        raise InvalidNames(None)
    before = {}
    for index, name in enumerate(names):
        if not is_column(table, name) or name in before:
            raise InvalidNames(index)
        before[name] = True


def is_column(table, name):
    """Whether this, which may be anything, is the name of a column of the table."""
    return isinstance(name, str) and name in table.names


def are_columns(table, names):
    """Whether these, which may be anything, are different columns of the table."""
    try:
        check_names(table, names)
    except InvalidNames:
        return False
    return True


def are_lost(table, lost):
    """Whether these, which may be anything, are lost cells of the table."""
    try:
        check_lost(table, lost)
    except InvalidLost:
        return False
    return True

"""Certificates: claims for the checker, each with what shows that it is true."""

from pairsums.basics import is_count
from pairsums.changes import change_for
from pairsums.checks import check_lost, check_one_lost, check_table
from pairsums.columns import first_loss
from pairsums.errors import InvalidNumber, NotRight
from pairsums.recipes import recipe_for
from pairsums.wrong import righted


def certify_cell(table, lost, cell):
    """That the cell comes back, with a recipe, or that it does not, with a change."""
    check_table(table)
    check_lost(table, lost)
    check_one_lost(table, lost, cell)
    recipe = recipe_for(table, lost, cell)
    if recipe is None:
        return ("gone", str(table), lost, cell), change_for(table, lost, cell)
    return ("back", str(table), lost, cell), recipe


def certify_strength(table, number):
    """That any so many columns come back, or that some do not, with their names."""
    check_table(table)
    if not is_count(number):
        raise InvalidNumber(number)
    names = first_loss(table, number)
    if names is None:
        return ("strong", str(table), number), ()
    return ("weak", str(table), number), names


def certify_wrong(table, cells, name):
    """That the cell values are right if only this column is changed, with its right ones; None if they are not."""
    try:
        made = righted(table, cells, name)
    except NotRight:
        return None
    values = {cell: value for cell, value in zip(table.cells, made)}
    return ("wrong", str(table), cells, name), tuple([values[cell] for cell in table.cells_of(name)])

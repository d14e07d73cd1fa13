"""Lost cells: which come back, by which recipes, and what may change where one does not."""

from pairsums.basics import choices, has_repeats, is_between
from pairsums.changes import change_for
from pairsums.checks import check_lost, check_one_lost, check_table
from pairsums.errors import InvalidNumber, NotRight
from pairsums.kinds import WORDS
from pairsums.nets import Gap, Net, all_parts
from pairsums.recipes import can_become_right, do_all_come_back, does_come_back, recipe_for, told_by, value_back
from pairsums.tables import check_cells

MOST_COUNTED = 3


def comes_back(table, lost):
    """Whether all of these cells come back."""
    check_table(table)
    check_lost(table, lost)
    return do_all_come_back(table, lost)


def back(table, lost):
    """Those of these cells that come back."""
    check_table(table)
    check_lost(table, lost)
    return tuple([cell for cell in table.cells if cell in lost and does_come_back(table, lost, cell)])


def kinds_back(table, lost, cell):
    """With which kinds the cell would come back."""
    check_table(table)
    check_lost(table, lost)
    check_one_lost(table, lost, cell)
    gap = Gap(table, lost, cell)
    return tuple([word for word in WORDS if told_by(word, gap) is not None])


def parts(table, lost):
    """The parts that have a lost datum."""
    check_table(table)
    check_lost(table, lost)
    found = [part for part in all_parts(Net(table, lost)) if part.lines]
    return tuple([(tuple([name for name in table.sums if name in part.colours]), part.lines, part.stubs)
                  for part in found])


def recipe(table, lost, cell):
    """A recipe for this cell, None if it does not come back."""
    check_table(table)
    check_lost(table, lost)
    check_one_lost(table, lost, cell)
    return recipe_for(table, lost, cell)


def change(table, lost, cell):
    """A change for this cell, None if it comes back."""
    check_table(table)
    check_lost(table, lost)
    check_one_lost(table, lost, cell)
    return change_for(table, lost, cell)


def restored(table, lost, cells):
    """The cell values with the right ones where a cell comes back, and None where it does not."""
    check_table(table)
    check_lost(table, lost)
    check_cells(table, cells)
    values = {cell: value for cell, value in zip(table.cells, cells)}
    if not can_become_right(table, lost, values):
        raise NotRight()
    return tuple([value_back(table, lost, cell, values) if cell in lost else values[cell] for cell in table.cells])


def fewest_gone(table):
    """The least number of cells that do not all come back if they are lost together, None if there is none."""
    check_table(table)
    if not table.data:
        return None
    # Two data with the same sums, or else a datum with both its sums; anything less leaves a sum that tells the datum.
    return 2 if has_repeats(table.data) else 3


def count_back(table, number):
    """How many sets of so many cells come back."""
    check_table(table)
    if not is_between(number, 0, MOST_COUNTED):
        raise InvalidNumber(number)
    return len([lost for lost in choices(table.cells, number) if do_all_come_back(table, lost)])

"""Lost columns: which come back together, and how many."""

from pairsums.basics import choices
from pairsums.checks import check_names, check_table
from pairsums.recipes import do_all_come_back
from pairsums.tables import Table

FURTHER = 2


def are_back(table, names):
    return do_all_come_back(table, tuple([cell for name in names for cell in table.cells_of(name)]))


def first_loss(table, number):
    """The first so many columns (all of them, if there are not so many) that do not come back, None if all such do."""
    for names in choices(table.names, min(number, len(table.names))):
        if not are_back(table, names):
            return names
    return None


def columns_back(table, names):
    """Whether these columns come back together."""
    check_table(table)
    check_names(table, names)
    return are_back(table, names)


def strength(table):
    """The greatest number such that any so many columns come back."""
    losses = least_losses(table)
    return len(losses[0]) - 1 if losses else len(table.names)


def least_losses(table):
    """All least sets of columns that do not come back."""
    check_table(table)
    found = []
    for number in range(1, len(table.names) + 1):
        for names in choices(table.names, number):
            is_least = not any([all([name in names for name in loss]) for loss in found])
            if is_least and not are_back(table, names):
                found.append(names)
    return tuple(found)


def joined(table, column):
    """The table with one more column."""
    check_table(table)
    # The other columns are valid without it, so that each fault is told with its own index.
    return Table(table.kind, (*table.columns, column))


def finds_wrong(table, names):
    """Whether these columns and any two further ones come back together."""
    check_table(table)
    check_names(table, names)
    further = [name for name in table.names if name not in names]
    return all([are_back(table, (*names, *beside)) for beside in choices(further, min(FURTHER, len(further)))])

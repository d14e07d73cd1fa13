"""The checker: whether a claim is true, as its certificate shows.

It trusts no search: recipes and changes count only where they do what they must, its own ones too.
"""

from pairsums.basics import choices, is_between, is_count, is_integer
from pairsums.changes import change_for
from pairsums.checks import are_columns, are_lost, is_column
from pairsums.errors import InvalidCells
from pairsums.kinds import BITS, PLAIN, reduced
from pairsums.recipes import recipe_for
from pairsums.tables import cells_told, check_cells, data_among, is_cell, table_with

# The words of claims, and how many elements a claim with each has.
CLAIMS = {"back": 4, "gone": 4, "strong": 3, "weak": 3, "wrong": 4}
MOST_CHANGE = 2


def accepts(claim, certificate):
    """Whether this is a claim for the checker, and this a certificate for it; both may be anything."""
    if not isinstance(claim, tuple) or not claim or not isinstance(claim[0], str):
        return False
    if CLAIMS.get(claim[0]) != len(claim):
        return False
    word, text, *rest = claim
    table = table_with(text)
    if table is None:
        return False
    if word == "back" or word == "gone":
        return accepts_cell(table, word, rest[0], rest[1], certificate)
    if word == "wrong":
        return accepts_wrong(table, rest[0], rest[1], certificate)
    return is_count(rest[0]) and accepts_columns(table, word, min(rest[0], len(table.names)), certificate)


def accepts_cell(table, word, lost, cell, certificate):
    if not are_lost(table, lost) or not is_cell(table, cell) or cell not in lost:
        return False
    if word == "back":
        return is_recipe(table, lost, cell, certificate)
    return is_change(table, lost, cell, certificate)


def accepts_columns(table, word, number, certificate):
    """Whether any so many columns come back, or whether those that the certificate tells do not."""
    if not isinstance(certificate, tuple):
        return False
    if word == "strong":
        return not certificate and all([are_shown_back(table, names) for names in choices(table.names, number)])
    return len(certificate) == number and are_columns(table, certificate) and are_shown_gone(table, certificate)


def accepts_wrong(table, cells, name, certificate):
    if not are_cells(table, cells) or not is_column(table, name) or not isinstance(certificate, tuple):
        return False
    column = table.cells_of(name)
    if len(certificate) != len(column) or not all([can_be_value(table.kind, number) for number in certificate]):
        return False
    values = {cell: value for cell, value in zip(table.cells, cells)}
    changed = {cell: number for cell, number in zip(column, certificate)}
    made = tuple([changed.get(cell, values[cell]) for cell in table.cells])
    return made == cells_told(table, data_among(table, made))


def are_cells(table, cells):
    """Whether these, which may be anything, are cell values of the table."""
    try:
        check_cells(table, cells)
    except InvalidCells:
        return False
    return True


def can_be_value(kind, value):
    """Whether this, which may be anything, can be a value of a cell, if the bounds in bits and plain are left aside."""
    if kind == BITS:
        return is_count(value)
    return is_integer(value) if kind == PLAIN else is_between(value, 0, kind - 1)


def is_recipe(table, lost, cell, recipe):
    """Whether this, which may be anything, is a recipe for the lost cell."""
    if not isinstance(recipe, tuple) or len(recipe) != 2:
        return False
    divisor, factors = recipe
    if not is_between(divisor, 1, 2 if table.kind == PLAIN else 1):
        return False
    if not are_factors(table, lost, factors):
        return False
    # It holds for all data if each datum is taken as many times on both sides.
    sides = (*factors, (cell, -divisor))
    return all([reduced(table.kind, times_in(number, pair, sides)) == 0 for number, pair in enumerate(table.data)])


def times_in(number, pair, factors):
    """How many times a datum, told by its number and its sums, is taken."""
    return sum([factor for (what, which), factor in factors if (which in pair if what == "sum" else which == number)])


def are_factors(table, lost, factors):
    """Whether these, which may be anything, are cells that are left, in their order, each with a factor."""
    if not isinstance(factors, tuple):
        return False
    left = [cell for cell in table.cells if cell not in lost]
    places = []
    for pair in factors:
        if not isinstance(pair, tuple) or len(pair) != 2:
            return False
        cell, factor = pair
        if not is_cell(table, cell) or cell not in left or not is_factor(table.kind, factor):
            return False
        places.append(left.index(cell))
    return all([one < other for one, other in zip(places, places[1:])])


def is_factor(kind, factor):
    return is_integer(factor) and factor != 0 and reduced(kind, factor) == factor


def is_change(table, lost, cell, change):
    """Whether this, which may be anything, is a change for the lost cell."""
    if not isinstance(change, tuple) or len(change) != len(table.data):
        return False
    if not all([can_be_put(table.kind, number) for number in change]):
        return False
    # What is put to the cells comes together as the values of data do.
    steps = {other: step for other, step in zip(table.cells, cells_told(table, change))}
    return steps[cell] != 0 and all([steps[other] == 0 for other in table.cells if other not in lost])


def can_be_put(kind, number):
    if kind == PLAIN:
        return is_between(number, -MOST_CHANGE, MOST_CHANGE)
    return is_integer(number) and reduced(kind, number) == number


def are_shown_back(table, names):
    """Whether all cells of these columns come back by recipes."""
    lost = cells_in(table, names)
    return all([is_recipe(table, lost, cell, recipe_for(table, lost, cell)) for cell in lost])


def are_shown_gone(table, names):
    """Whether there is a change for a cell of these columns."""
    lost = cells_in(table, names)
    return any([is_change(table, lost, cell, change_for(table, lost, cell)) for cell in lost])


def cells_in(table, names):
    return tuple([cell for name in names for cell in table.cells_of(name)])

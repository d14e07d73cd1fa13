"""What comes back, told by searches that know nothing of the program: all changes gone through, and elimination."""

import itertools
from fractions import Fraction


def put(kind, first, second):
    """Two values put together in a kind."""
    if kind == "bits":
        return first ^ second
    return first + second if kind == "plain" else (first + second) % kind


def numbers_put(kind):
    """The numbers that a change can put to a datum."""
    if kind == "bits":
        return (0, 1)
    return range(-2, 3) if kind == "plain" else range(kind)


def put_to_sums(table, changed):
    """What is put to each sum if these numbers are put to data, told by the numbers of the data."""
    found = {name: 0 for name in table.sums}
    for number, step in changed.items():
        for name in table.data[number]:
            found[name] = put(table.kind, found[name], step)
    return found


def lost_data(lost):
    return sorted(which for what, which in lost if what == "datum")


def hidden_changes(table, lost):
    """What changes of the lost data put to the lost cells, for all changes that no cell that is left shows."""
    numbers = lost_data(lost)
    for steps in itertools.product(numbers_put(table.kind), repeat=len(numbers)):
        changed = dict(zip(numbers, steps))
        at_sums = put_to_sums(table, changed)
        if not any(step and ("sum", name) not in lost for name, step in at_sums.items()):
            yield {(what, which): changed[which] if what == "datum" else at_sums[which] for what, which in lost}


def back_by_search(table, lost):
    """The cells that come back, in the order of the cells."""
    gone = {cell for hidden in hidden_changes(table, lost) for cell, step in hidden.items() if step}
    return tuple(cell for cell in table.cells if cell in lost and cell not in gone)


def rows_of(table, lost):
    """What the sums that are left tell about the lost data: for each one, 1 for each lost datum in it."""
    numbers = lost_data(lost)
    return [[int(name in table.data[number]) for number in numbers]
            for name in table.sums if ("sum", name) not in lost]


def row_of(table, lost, cell):
    """The lost cell as lost data: itself, or those that are in it."""
    what, which = cell
    return [int(number == which if what == "datum" else which in table.data[number]) for number in lost_data(lost)]


def rank(rows, prime):
    """The rank of rows of integers: modulo a prime, or for None among fractions."""
    def fitted(value):
        return Fraction(value) if prime is None else value % prime

    rows = [[fitted(value) for value in row] for row in rows]
    found = 0
    for column in range(len(rows[0]) if rows else 0):
        at = next((at for at in range(found, len(rows)) if rows[at][column]), None)
        if at is None:
            continue
        rows[found], rows[at] = rows[at], rows[found]
        turned = 1 / rows[found][column] if prime is None else pow(rows[found][column], -1, prime)
        for other in range(found + 1, len(rows)):
            factor = rows[other][column] * turned
            rows[other] = [fitted(mine - factor * its) for mine, its in zip(rows[other], rows[found])]
        found += 1
    return found


def back_by_elimination(table, lost):
    """The cells that come back in bits, in plain and on dials of a prime: those that the sums that are left span."""
    prime = {"bits": 2, "plain": None}.get(table.kind, table.kind)
    rows = rows_of(table, lost)
    spanned = rank(rows, prime)
    return tuple(cell for cell in table.cells
                 if cell in lost and rank(rows + [row_of(table, lost, cell)], prime) == spanned)


def can_be_right(table, lost, cells, numbers):
    """Whether there are right cell values with these values in the cells that are left, and such lost data."""
    values = dict(zip(table.cells, cells))
    missing = lost_data(lost)
    held = {number: values["datum", number] for number in range(len(table.data)) if number not in missing}
    for steps in itertools.product(numbers, repeat=len(missing)):
        at_sums = put_to_sums(table, {**held, **dict(zip(missing, steps))})
        if all(at_sums[name] == values["sum", name] for name in table.sums if ("sum", name) not in lost):
            return True
    return False

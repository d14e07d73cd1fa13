"""Which lost cells come back, and what the cells that are left tell about them."""

from pairsums.kinds import BITS, ODD, PLAIN, put_together, reduced, word_of
from pairsums.nets import Gap, Net, all_parts, part_at


def told_by(word, gap):
    """What tells a lost cell that is taken away, for the kinds of a word: the colours of a part, and how many times the
    sums of this part, each in its colour, tell the cell. None if the cell does not come back.
    """
    for end in gap.ends:
        part = part_at(gap.net, end)
        times = sum([part.colours.get(name, 0) for name in gap.ends])
        # The lines of the part cancel each other out if it has no stub, and in bits whatever they join.
        if part.stubs or not part.is_two_sided and word != BITS:
            continue
        # Both ends in unlike colours give 0, in the same colour 2, which tells nothing in bits and half on even dials.
        if times == 1 or times == 2 and word in (ODD, PLAIN):
            return part.colours, times
    return None


def does_come_back(table, lost, cell):
    return told_by(word_of(table.kind), Gap(table, lost, cell)) is not None


def do_all_come_back(table, lost):
    # Once all lost data are back, they give all lost sums.
    return all([does_come_back(table, lost, cell) for cell in lost if cell[0] == "datum"])


def left_factors(table, lost, colours, scale):
    """The cells that are left, with the factors with which they give what the lost data come to in the sums with
    colours, each taken colour times scale times.
    """
    found = []
    for cell in table.cells:
        what, which = cell
        pair = (which,) if what == "sum" else table.data[which]
        colour = sum([colours.get(name, 0) for name in pair])
        # A datum that is left is taken out of its sums again.
        factor = reduced(table.kind, colour * scale if what == "sum" else -colour * scale)
        if factor != 0 and cell not in lost:
            found.append((cell, factor))
    return tuple(found)


def worth_of(kind, factors, values):
    """What cells with these values give, each taken factor times."""
    return put_together(kind, [factor * values[cell] for cell, factor in factors])


def recipe_for(table, lost, cell):
    found = told_by(word_of(table.kind), Gap(table, lost, cell))
    if found is None:
        return None
    colours, times = found
    if cell[0] == "sum":
        # The sums of its part, itself included, give 0 beside the data that are left.
        return 1, left_factors(table, lost, colours, -1)
    if times == 1 or table.kind == PLAIN:
        return times, left_factors(table, lost, colours, 1)
    # Twice the datum, taken so often on an odd dial, is the datum.
    return 1, left_factors(table, lost, colours, (table.kind + 1) // 2)


def value_back(table, lost, cell, values):
    """The value of a lost cell, told by those of the cells that are left; None if it does not come back."""
    found = recipe_for(table, lost, cell)
    if found is None:
        return None
    divisor, factors = found
    return worth_of(table.kind, factors, values) // divisor


def can_be_right(table, lost, part, values):
    """Whether some values of the lost data make the sums of a part right, all other values being these."""
    if part.stubs:
        return True
    rest = worth_of(table.kind, left_factors(table, lost, part.colours, 1), values)
    if part.is_two_sided or table.kind == BITS:
        return rest == 0
    # Each line counts twice or not at all here; on an odd dial all numbers are twice another one.
    return word_of(table.kind) == ODD or rest % 2 == 0


def can_become_right(table, lost, values):
    """Whether there are right cell values that are the same as these in all cells that are left."""
    return all([can_be_right(table, lost, part, values) for part in all_parts(Net(table, lost))])

"""Wrong cell values: the sums that are not right, and the columns that alone can be wrong."""

from pairsums.changes import way_to
from pairsums.checks import check_table
from pairsums.errors import NotRight
from pairsums.kinds import put_together, reduced
from pairsums.nets import Net, all_parts
from pairsums.recipes import can_become_right
from pairsums.tables import cells_told, check_cells, data_among


def lacks(table, cells):
    """The sums that are not right, each with the number that would make it right, put to it."""
    check_table(table)
    check_cells(table, cells)
    return tuple([(name, number) for name, number in lacks_by_sum(table, cells).items() if number != 0])


def lacks_by_sum(table, cells):
    """What each sum lacks, told by its name, in the order of the sums; 0 where it is right."""
    minus = reduced(table.kind, -1)
    told = cells_told(table, data_among(table, cells))
    return {which: put_together(table.kind, [right, minus * value])
            for (what, which), right, value in zip(table.cells, told, cells) if what == "sum"}


def suspects(table, cells):
    """The columns such that the cell values become right if only this one gets other values."""
    check_table(table)
    check_cells(table, cells)
    return tuple([name for name in table.names if is_suspect(table, cells, name)])


def is_suspect(table, cells, name):
    values = {cell: value for cell, value in zip(table.cells, cells)}
    return can_become_right(table, table.cells_of(name), values)


def righted(table, cells, name):
    """Right cell values that differ from these in this column at most, in plain perhaps beyond the bounds."""
    check_table(table)
    check_cells(table, cells)
    lost = table.cells_of(name)
    if not is_suspect(table, cells, name):
        raise NotRight()
    net = Net(table, lost)
    lacking = lacks_by_sum(table, cells)
    values = list(data_among(table, cells))
    for part in all_parts(net):
        for way in ways_to_right(table.kind, net, part, lacking):
            for number, step in way:
                values[number] = put_together(table.kind, [values[number], step])
    return cells_told(table, values)


def ways_to_right(kind, net, part, lacking):
    """The ways, numbers put to lost data, by which the sums of a part that can become right do so.

    The data give a sum more than its value by what it lacks. This is carried to a lost sum, or else to the first sum
    of the part; what comes together there is halved, and carried around from there until it meets itself.
    """
    names = list(part.colours)
    if part.stubs:
        return [stretched(kind, way_to(net, name, None), lacking[name]) for name in names]
    first = names[0]
    found = [stretched(kind, way_to(net, name, (first, part.colours[name])), lacking[name]) for name in names[1:]]
    rest = put_together(kind, [reduced(kind, part.colours[name]) * lacking[name] for name in names])
    if rest != 0:
        # An odd rest can be halved on odd dials alone, once around.
        half = rest // 2 if rest % 2 == 0 else (rest + kind) // 2
        found.append(stretched(kind, way_to(net, first, (first, -1)), half))
    return found


def stretched(kind, way, times):
    return [(number, reduced(kind, step) * times) for number, step in way]

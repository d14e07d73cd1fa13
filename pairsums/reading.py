"""Reading a lost column back, step by step: each step brings back one of its cells from one sum."""

from pairsums.checks import check_table


def fewest_reads(table, name):
    """The least number of reads with which the column is read back, None if it can't be done."""
    steps = reading(table, name)
    return None if steps is None else count_reads(table, steps)


def reading(table, name):
    """Steps that read the column back with the least number of reads, None if there are none."""
    check_table(table)
    ways = [in_order(table, way) for way in ways_to_read(table, table.cells_of(name))]
    ways = [way for way in ways if way is not None]
    if not ways:
        return None
    return min(ways, key=lambda way: count_reads(table, way))


def ways_to_read(table, lost):
    """All choices of a step for each lost cell such that no sum stands in two of them."""
    ways = [()]
    for what, which in lost:
        words = (which,) if what == "sum" else table.data[which]
        # With one sum for two lost cells, each of the two steps would need the cell of the other one.
        ways = [(*way, ((what, which), word)) for way in ways for word in words
                if word not in [taken for _, taken in way]]
    return ways


def needs_of(table, step):
    """The cells from which a step brings back its own one: all others that stand in its sum, and this sum."""
    cell, word = step
    standing = [("sum", word)] + [("datum", number) for number, pair in enumerate(table.data) if word in pair]
    return [other for other in standing if other != cell]


def in_order(table, way):
    """The steps in an order in which they can be done, None if there is none."""
    needs = {step: needs_of(table, step) for step in way}
    waiting = way
    done = []
    while waiting:
        missing = [cell for cell, _ in waiting]
        ready = [step for step in waiting if not any([cell in missing for cell in needs[step]])]
        if not ready:
            return None
        done.extend(ready)
        waiting = [step for step in waiting if step not in ready]
    return tuple(done)


def count_reads(table, steps):
    """How many cells that are left are needed by some step."""
    lost = [cell for cell, _ in steps]
    return len(set([cell for step in steps for cell in needs_of(table, step) if cell not in lost]))

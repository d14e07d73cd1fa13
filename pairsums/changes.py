"""What can be put to lost data so that no cell that is left changes."""

from pairsums.kinds import BITS, reduced
from pairsums.nets import Gap
from pairsums.recipes import does_come_back


def way_to(net, start, goal):
    """A shortest way along which a surplus of 1 is carried from a sum to a goal; None if there is none.

    The way is a list of pairs (line, number to put to it). Each number takes the surplus from the one sum of its line,
    and leaves the opposite at the other one. The goal is a pair (sum, surplus there), or None for any lost sum, where
    nothing needs to be carried on.
    """
    ways = {(start, 1): []}
    waiting = [(start, 1)]
    while waiting:
        name, surplus = waiting.pop(0)
        for number in net.lines_at[name]:
            other = net.across(number, name)
            place = (other, -surplus) if other in net.lines_at else None
            way = [*ways[(name, surplus)], (number, -surplus)]
            if place == goal:
                return way
            if place is not None and place not in ways:
                ways[place] = way
                waiting.append(place)
    return None


def scaled(way, times):
    return [(number, times * step) for number, step in way]


def ways_with_one(gap):
    """The ways if 1 is put to the cell that is taken away: to lost sums, or all around to its other end."""
    to_lost = [way_to(gap.net, end, None) for end in gap.ends]
    if None not in to_lost:
        return to_lost
    around = way_to(gap.net, gap.ends[0], (gap.ends[-1], -1)) if len(gap.ends) == 2 else None
    return None if around is None else [around]


def ways_with_two(gap):
    """The ways if 2 is put to it: one of the two comes back to its end as the opposite, and meets the other there."""
    found = []
    for end in gap.ends:
        to_lost = way_to(gap.net, end, None)
        found.append(way_to(gap.net, end, (end, -1)) if to_lost is None else scaled(to_lost, 2))
    return None if None in found else found


def ways_with_half(kind, gap):
    """The ways if half of an even dial, or 1 in bits, is put to it: there it is its own opposite."""
    half = 1 if kind == BITS else kind // 2
    return half, [scaled(way_to(gap.net, gap.ends[0], (gap.ends[-1], 1)), half)]


def amount_and_ways(kind, gap):
    """What can be put to a cell that is taken away and does not come back, and the ways for it."""
    ways = ways_with_one(gap)
    if ways is not None:
        return 1, ways
    # There are none in bits, where 2 would be nothing: what has no ways with 1 there stands twice in a two-sided part.
    ways = ways_with_two(gap)
    if ways is not None:
        return 2, ways
    return ways_with_half(kind, gap)


def change_for(table, lost, cell):
    if does_come_back(table, lost, cell):
        return None
    amount, ways = amount_and_ways(table.kind, Gap(table, lost, cell))
    put = [0 for pair in table.data]
    what, which = cell
    if what == "datum":
        put[which] = amount
    for way in ways:
        for number, step in way:
            put[number] += step
    return tuple([reduced(table.kind, number) for number in put])

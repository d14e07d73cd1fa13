"""Lost data as lines between the sums that are left, and the parts of these sums that hang together."""


class Net:
    """The lost data of a table, as lines.

    `pairs` has the two sums of each line, told by its number; `lines_at` has the lines at each sum that is left, told
    by its name.
    """

    def __init__(self, table, lost):
        gone = {cell: True for cell in lost}
        pairs = {number: pair for number, pair in enumerate(table.data) if ("datum", number) in gone}
        lines_at = {name: [] for name in table.sums if ("sum", name) not in gone}
        for number, pair in pairs.items():
            for name in pair:
                if name in lines_at:
                    lines_at[name].append(number)
        self.pairs = pairs
        self.lines_at = lines_at

    def across(self, number, name):
        """The other sum of a line."""
        one, other = self.pairs[number]
        return other if name == one else one


class Part:
    """Sums that are left and hang together, and the lines at them, stubs among these.

    `colours` has 1 for the sum at which the part was found, and 1 or -1 for the others; in a two-sided part each line
    without a stub joins 1 and -1.
    """

    def __init__(self, net, colours):
        self.colours = colours
        lines = [number for number, pair in net.pairs.items() if any([name in colours for name in pair])]
        stubs = [number for number in lines if not all([name in colours for name in net.pairs[number]])]
        inner = [net.pairs[number] for number in lines if number not in stubs]
        self.lines = tuple(lines)
        self.stubs = tuple(stubs)
        self.is_two_sided = all([colours[one] != colours[other] for one, other in inner])


def part_at(net, start):
    """The part of a sum that is left."""
    colours = {start: 1}
    waiting = [start]
    while waiting:
        name = waiting.pop()
        for number in net.lines_at[name]:
            other = net.across(number, name)
            if other in net.lines_at and other not in colours:
                colours[other] = -colours[name]
                waiting.append(other)
    return Part(net, colours)


def all_parts(net):
    """All parts, those without lines among them, ordered by their first sums."""
    found = []
    for name in net.lines_at:
        if not any([name in part.colours for part in found]):
            found.append(part_at(net, name))
    return found


class Gap:
    """A lost cell that is taken away: `net` is the net without it, `ends` are the sums that are left at which it stood.

    A lost sum is looked at as one that is left; it stands at itself alone, like a stub.
    """

    def __init__(self, table, lost, cell):
        what, which = cell
        net = Net(table, [other for other in lost if other != cell])
        pair = (which,) if what == "sum" else table.data[which]
        self.net = net
        self.ends = tuple([name for name in pair if name in net.lines_at])

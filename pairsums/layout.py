"""How columns, sums and data stand in a table: their check, their cells and their text."""

from pairsums.basics import has_repeats, is_name
from pairsums.errors import InvalidColumns
from pairsums.limits import MOST_COLUMNS, MOST_DATA, MOST_DIAL, MOST_SUMS


def check_columns(columns):
    """Raises InvalidColumns for the first fault, in the order in which the document tells the faults."""
    if not isinstance(columns, tuple) or not columns:
        raise InvalidColumns(None)
    check_forms(columns)
    sums = [word for column in columns for word in column[1]]
    if not sums:
        raise InvalidColumns(None)
    check_contents(columns, sums)


def check_forms(columns):
    names = []
    sums = []
    for index, column in enumerate(columns):
        if index == MOST_COLUMNS or not has_form(column):
            raise InvalidColumns(index)
        names.append(column[0])
        sums.extend(column[1])
        # A column may have the name of a sum: only columns differ among themselves, and sums among themselves.
        if has_repeats(names) or has_repeats(sums):
            raise InvalidColumns(index)


def has_form(column):
    """Whether this is a triple of a name, a tuple of names and a tuple."""
    if not isinstance(column, tuple) or len(column) != 3:
        return False
    name, sums, data = column
    if not is_name(name) or not isinstance(sums, tuple) or not isinstance(data, tuple):
        return False
    return all([is_name(word) for word in sums])


def check_contents(columns, sums):
    many_sums = 0
    many_data = 0
    for index, column in enumerate(columns):
        many_sums += len(column[1])
        many_data += len(column[2])
        if many_sums > MOST_SUMS or many_data > MOST_DATA:
            raise InvalidColumns(index)
        # Also sums of columns behind this one: a datum may be in any sums of the table.
        if not all([is_pair(datum, sums) for datum in column[2]]):
            raise InvalidColumns(index)


def is_pair(datum, sums):
    """Whether this is a pair of two of these sums, ascending."""
    if not isinstance(datum, tuple) or len(datum) != 2:
        return False
    one, other = datum
    if not isinstance(one, str) or not isinstance(other, str):
        return False
    return one in sums and other in sums and one < other


def cells_by_column(columns):
    """The cells of each column, told by its name, in the order of the columns."""
    found = {}
    first = 0
    for name, sums, data in columns:
        found[name] = tuple([("sum", word) for word in sums] + [("datum", first + at) for at in range(len(data))])
        first += len(data)
    return found


def lines_of(kind, columns):
    """The lines of the text of a table."""
    lines = [f"kind {kind}"]
    for name, sums, data in columns:
        lines.append(f"column {name}")
        lines.extend([f"sum {word}" for word in sums])
        lines.extend([f"datum {one} {other}" for one, other in data])
    return tuple(lines)


def kind_of_line(line):
    """What stands where a line tells a kind, as a number if it is one."""
    word = line[len("kind "):]
    # Python refuses to read thousands of digits; a dial has few.
    if word.isascii() and word.isdigit() and len(word) <= len(str(MOST_DIAL)):
        return int(word)
    return word


def columns_of_lines(lines):
    """The columns that lines tell, not checked; None if the lines have not the form of such."""
    told = []
    for line in lines:
        word, *rest = line.split(" ")
        if word == "column" and len(rest) == 1:
            told.append((rest[0], [], []))
        elif word == "sum" and len(rest) == 1 and told:
            told[-1][1].append(rest[0])
        elif word == "datum" and len(rest) == 2 and told:
            told[-1][2].append(tuple(rest))
        else:
            return None
    return tuple([(name, tuple(sums), tuple(data)) for name, sums, data in told])

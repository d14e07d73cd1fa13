"""The lines of a console: what they tell, and how cells stand in them."""

from pairsums.tables import is_cell

# The lines that are one word.
ALONE = ("undo", "mend", "lost", "hope")


def deed_of(table, words):
    """What the words of a line tell, as a tuple of a word and what goes with it; None if they are no line.

    The words are those between single spaces; where there are more spaces, some of them are empty.
    """
    word, *rest = words
    if word in ALONE and not rest:
        return (word,)
    if word == "lose" and len(rest) == 2 and rest[0] == "column":
        return ("column", rest[1]) if rest[1] in table.names else None
    if word == "put" and len(rest) == 2 and is_number(rest[0]) and is_value(rest[1]):
        return word, int(rest[0]), int(rest[1])
    cell = cell_of(table, rest[:2])
    if cell is None:
        return None
    if word in ("lose", "show") and len(rest) == 2:
        return word, cell
    if word == "give" and len(rest) == 3 and is_value(rest[2]):
        return word, cell, int(rest[2])
    return None


def is_number(word):
    """Whether these are decimal digits without needless zeros."""
    return word.isascii() and word.isdigit() and (word == "0" or not word.startswith("0"))


def is_value(word):
    """Whether this is a number, with a minus sign directly before it if it is below 0."""
    return is_number(word.removeprefix("-")) and word != "-0"


def cell_of(table, words):
    """The cell of the table that two words tell, None if they tell none."""
    if len(words) != 2:
        return None
    what, which = words
    cell = (what, int(which)) if is_number(which) else (what, which)
    return cell if is_cell(table, cell) else None


def text_of(cells):
    """Cells as they stand in an answer."""
    return ", ".join([f"{what} {which}" for what, which in cells]) if cells else "none"

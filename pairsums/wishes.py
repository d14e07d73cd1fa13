"""Wishes: their forms, and when they hold."""

from pairsums.basics import is_count
from pairsums.checks import are_columns, are_lost, is_column
from pairsums.columns import are_back, first_loss
from pairsums.reading import fewest_reads
from pairsums.recipes import do_all_come_back


def is_wish(wish):
    """Whether this, which may be anything, has one of the four forms."""
    if not isinstance(wish, tuple) or len(wish) < 3 or not isinstance(wish[0], str):
        return False
    word, _, *rest = wish
    if word == "strong":
        return len(rest) == 1 and is_count(rest[0])
    if word == "back":
        return len(rest) == 1
    if word == "columns":
        return len(rest) == 1 and isinstance(rest[0], tuple)
    return word == "reads" and len(rest) == 2 and is_count(rest[1])


def does_hold(wish, tables):
    """Whether a wish of one of the forms holds for these tables, told by their names."""
    word, name, *rest = wish
    if not isinstance(name, str) or name not in tables:
        return False
    table = tables[name]
    if word == "strong":
        return first_loss(table, rest[0]) is None
    if word == "back":
        return are_lost(table, rest[0]) and do_all_come_back(table, rest[0])
    if word == "columns":
        return are_columns(table, rest[0]) and are_back(table, rest[0])
    column, number = rest
    return is_column(table, column) and can_be_read(table, column, number)


def can_be_read(table, column, number):
    reads = fewest_reads(table, column)
    return reads is not None and reads <= number

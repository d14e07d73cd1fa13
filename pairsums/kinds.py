"""The kinds of tables: bits, plain sums and dials, and the values that go with each."""

from pairsums.basics import is_between
from pairsums.limits import MOST_BITS, MOST_DIAL

BITS = "bits"
PLAIN = "plain"
LEAST_DIAL = 3


def is_kind(value):
    if isinstance(value, str):
        return value == BITS or value == PLAIN
    return is_between(value, LEAST_DIAL, MOST_DIAL)


def is_value(kind, value, bound):
    """Whether a value goes with the kind; `bound` matters for plain values only."""
    if kind == BITS:
        return is_between(value, 0, (1 << MOST_BITS) - 1)
    if kind == PLAIN:
        return is_between(value, -bound, bound)
    return is_between(value, 0, kind - 1)


def put_together(kind, numbers):
    """What numbers give together: their exclusive or, their sum, or the rest of their sum."""
    if kind == BITS:
        mixed = 0
        for number in numbers:
            mixed = mixed ^ number
        return mixed
    total = sum(numbers)
    return total if kind == PLAIN else total % kind

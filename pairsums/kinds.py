"""The kinds of tables: bits, plain sums and dials, and the values and factors that go with each."""

from pairsums.basics import is_between
from pairsums.limits import MOST_BITS, MOST_DIAL

BITS = "bits"
PLAIN = "plain"
EVEN = "even"
ODD = "odd"
WORDS = ("bits", "even", "odd", "plain")
LEAST_DIAL = 3


def is_kind(value):
    if isinstance(value, str):
        return value == BITS or value == PLAIN
    return is_between(value, LEAST_DIAL, MOST_DIAL)


def is_value(kind, value, bound):
    """Whether a value goes with the kind; `bound` matters for plain values only."""
    if kind == BITS:
        return is_between(value, 0, (1 << MOST_BITS) - 1)
    if kind == PLAIN:
        return is_between(value, -bound, bound)
    return is_between(value, 0, kind - 1)


def put_together(kind, numbers):
    """What numbers give together: their exclusive or, their sum, or the rest of their sum."""
    if kind == BITS:
        mixed = 0
        for number in numbers:
            mixed = mixed ^ number
        return mixed
    total = sum(numbers)
    return total if kind == PLAIN else total % kind


def word_of(kind):
    """The word for all kinds with which the same cells come back as with this one."""
    if isinstance(kind, str):
        return kind
    return EVEN if kind % 2 == 0 else ODD


def reduced(kind, number):
    """The factor or the change that does the same as this number, within the bounds that the kind has for it."""
    if kind == PLAIN:
        return number
    return number % 2 if kind == BITS else number % kind

"""Integers and names, as the document means them."""

MOST_LETTERS = 8


def is_integer(value):
    # True and False are integers for Python, not for the document.
    return isinstance(value, int) and not isinstance(value, bool)


def is_between(value, low, high):
    return is_integer(value) and low <= value <= high


def is_count(value):
    """Whether this is an integer from 0 on."""
    return is_integer(value) and value >= 0


def is_name(value):
    if not isinstance(value, str) or not 1 <= len(value) <= MOST_LETTERS:
        return False
    return all(["a" <= letter <= "z" for letter in value])


def has_repeats(words):
    return len(set(words)) < len(words)


def choices(things, number):
    """All tuples of so many of these things, in their order."""
    if number == 0:
        return [()]
    found = []
    for at, thing in enumerate(things):
        found.extend([(thing, *rest) for rest in choices(things[at + 1:], number - 1)])
    return found

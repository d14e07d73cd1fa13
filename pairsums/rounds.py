"""Rounds of pairs, and the tables that they make."""

from pairsums.basics import choices, has_repeats, is_between, is_integer
from pairsums.errors import InvalidKind, InvalidNumber, InvalidRounds
from pairsums.kinds import is_kind
from pairsums.limits import MOST_PLACES
from pairsums.tables import Table

ODD_PRIMES = (3, 5, 7, 11, 13)
LEAST_PLACES = 4
MOST_PLACES_OF_TABLES = 8
LETTERS = "abcdefg"


def prime_rounds(prime):
    """The rounds of prime + 1 places: each place but the last in the middle of one of them, beside the last one."""
    if not is_integer(prime) or prime not in ODD_PRIMES:
        raise InvalidNumber(prime)
    return tuple([prime_round(prime, middle) for middle in range(prime)])


def prime_round(prime, middle):
    pairs = [(middle, prime)]
    for step in range(1, (prime + 1) // 2):
        one, other = (middle + step) % prime, (middle - step) % prime
        pairs.append((min(one, other), max(one, other)))
    return tuple(sorted(pairs))


def are_perfect(rounds):
    """Whether each two of the rounds make one ring."""
    return short_ring(rounds) is None


def short_ring(rounds):
    """A ring of two rounds that does not go through all places, None if there is none."""
    check_rounds(rounds, MOST_PLACES)
    for one, other in choices(rounds, 2):
        ring = ring_of(one, other)
        if len(ring) <= len(rounds):
            return ring
    return None


def ring_of(one, other):
    """The places that are gone through from place 0 by pairs of the one round and of the other by turns."""
    first, second = partners_in(one), partners_in(other)
    ring = [0, first[0]]
    while second[ring[-1]] != 0:
        place = second[ring[-1]]
        ring.extend([place, first[place]])
    return tuple(ring)


def partners_in(pairs):
    """The place that is paired with each place."""
    found = {}
    for one, other in pairs:
        found[one] = other
        found[other] = one
    return found


def table_of(kind, rounds):
    """The table of rounds."""
    if not is_kind(kind):
        raise InvalidKind(kind)
    check_rounds(rounds, MOST_PLACES_OF_TABLES)
    return Table(kind, tuple([column_of(pairs, LETTERS[at], len(rounds)) for at, pairs in enumerate(rounds)]))


def column_of(pairs, letter, last):
    """The column of a round; the last two places are no sums."""
    partner = partners_in(pairs)[last]
    sums = (LETTERS[partner],) if partner < last - 1 else ()
    data = tuple([(LETTERS[one], LETTERS[other]) for one, other in pairs if other < last - 1])
    return "r" + letter, sums, data


def check_rounds(rounds, most):
    """Raises InvalidRounds if these, which may be anything, are no rounds of at most so many places."""
    if not isinstance(rounds, tuple):
        raise InvalidRounds(None)
    places = len(rounds) + 1
    if places % 2 == 1 or not LEAST_PLACES <= places <= most:
        raise InvalidRounds(None)
    before = {}
    for index, pairs in enumerate(rounds):
        if not is_round(pairs, places) or any([pair in before for pair in pairs]):
            raise InvalidRounds(index)
        for pair in pairs:
            before[pair] = True


def is_round(pairs, places):
    """Whether these are ascending pairs of all places."""
    if not isinstance(pairs, tuple) or len(pairs) != places // 2:
        return False
    if not all([is_pair_of_places(pair, places) for pair in pairs]):
        return False
    return list(pairs) == sorted(pairs) and not has_repeats([place for pair in pairs for place in pair])


def is_pair_of_places(pair, places):
    if not isinstance(pair, tuple) or len(pair) != 2:
        return False
    one, other = pair
    return is_between(one, 0, places - 1) and is_between(other, 0, places - 1) and one < other

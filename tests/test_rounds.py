"""Rounds of pairs: points [13] and [14], and the interface, "pairsums/rounds.py"."""

import itertools
import random

from pairsums.columns import columns_back, strength
from pairsums.errors import InvalidKind, InvalidNumber, InvalidRounds
from pairsums.rounds import are_perfect, prime_rounds, short_ring, table_of
from pairsums.tables import Table
from tests.kit import KINDS, Anything, Case, not_integers

PRIMES = (3, 5, 7, 11, 13)


def around(many):
    """Rounds of an even number of places made like those of primes, whatever it is one more than."""
    odd = many - 1
    found = []
    for middle in range(odd):
        pairs = [(middle, odd)]
        for step in range(1, many // 2):
            pairs.append(tuple(sorted([(middle + step) % odd, (middle - step) % odd])))
        found.append(tuple(sorted(pairs)))
    return tuple(found)


def by_bits():
    """Rounds of eight places, any two of which fall apart into rings of four."""
    return tuple(tuple((place, place ^ step) for place in range(8) if place < place ^ step) for step in range(1, 8))


def mixed(rounds, seed):
    """The same rounds in another order, with the places called otherwise."""
    chance = random.Random(seed)
    names = list(range(len(rounds) + 1))
    chance.shuffle(names)
    found = [tuple(sorted(tuple(sorted([names[one], names[other]])) for one, other in pairs)) for pairs in rounds]
    chance.shuffle(found)
    return tuple(found)


def all_rounds():
    found = [around(many) for many in range(4, 15, 2)] + [by_bits()]
    return found + [mixed(rounds, seed) for rounds in found for seed in range(6)]


def ring_lengths(one, other):
    """The lengths of the rings that two rounds make, by joining places."""
    group = {place: place for pair in one for place in pair}
    for _ in group:
        for first, second in one + other:
            group[first] = group[second] = min(group[first], group[second])
    return [list(group.values()).count(place) for place in set(group.values())]


def perfect_by_search(rounds):
    return all(len(ring_lengths(one, other)) == 1 for one, other in itertools.combinations(rounds, 2))


class PrimeRounds(Case):
    def test_all(self):
        for prime in PRIMES:
            rounds = prime_rounds(prime)
            self.assertEqual(rounds, around(prime + 1))
            self.assertEqual(rounds, prime_rounds(prime=prime))
            self.assert_plain(rounds)
            for at, pairs in enumerate(rounds):
                self.assertIn((at, prime), pairs)
                self.assertEqual(sorted(place for pair in pairs for place in pair), list(range(prime + 1)))
                self.assertEqual(list(pairs), sorted(pairs))
                for one, other in pairs:
                    self.assertTrue(other == prime or (one + other - 2 * at) % prime == 0)

    def test_perfect(self):
        for prime in PRIMES:
            self.assertIs(are_perfect(prime_rounds(prime)), True)
            self.assertIs(short_ring(prime_rounds(prime)), None)
            self.assertTrue(perfect_by_search(prime_rounds(prime)))

    def test_small_ones(self):
        self.assertEqual(prime_rounds(3), (((0, 3), (1, 2)), ((0, 2), (1, 3)), ((0, 1), (2, 3))))
        self.assertEqual(prime_rounds(5)[0], ((0, 5), (1, 4), (2, 3)))
        self.assertEqual(prime_rounds(5)[3], ((0, 1), (2, 4), (3, 5)))
        self.assertEqual(prime_rounds(7)[6], ((0, 5), (1, 4), (2, 3), (6, 7)))

    def test_all_else(self):
        wrong = [0, 1, 2, 4, 6, 8, 9, 10, 12, 14, 15, 16, 17, 19, 23, -3, -5, 10 ** 79, "3", "13", "prime", [3], (3,),
                 b"3", {3}, {3: 3}, *not_integers()]
        for prime in wrong:
            self.assert_told(InvalidNumber, prime, prime_rounds, prime)
            self.assert_told(InvalidNumber, prime, prime_rounds, prime=prime)


class Perfect(Case):
    def test_like_a_search(self):
        some_fail = 0
        for rounds in all_rounds():
            perfect = perfect_by_search(rounds)
            self.assertIs(are_perfect(rounds), perfect)
            self.assertIs(are_perfect(rounds=rounds), perfect)
            some_fail += not perfect
        self.assertGreaterEqual(some_fail, 14)

    def test_named(self):
        self.assertIs(are_perfect(by_bits()), False)
        self.assertIs(are_perfect(around(10)), False)
        # Of these rounds of ten places some two make one ring, and some do not.
        lengths = [len(ring_lengths(one, other)) for one, other in itertools.combinations(around(10), 2)]
        self.assertEqual(set(lengths), {1, 2})

    def test_one_bad_pair_of_rounds_anywhere(self):
        for seed in range(30):
            self.assertIs(are_perfect(mixed(around(10), seed)), False)
            self.assertIs(are_perfect(mixed(around(8), seed)), True)
            self.assertIs(are_perfect(mixed(around(14), seed)), True)


class ShortRing(Case):
    def assert_ring(self, rounds, ring):
        self.assertIs(type(ring), tuple)
        self.assertTrue(all(type(place) is int and 0 <= place <= len(rounds) for place in ring))
        self.assertEqual(len(set(ring)), len(ring))
        self.assertTrue(4 <= len(ring) <= len(rounds))
        steps = [tuple(sorted(step)) for step in zip(ring, ring[1:] + ring[:1])]
        self.assertTrue(any(all(step in two[at % 2] for at, step in enumerate(steps))
                            for two in itertools.permutations(rounds, 2)), (rounds, ring))

    def test_a_ring_or_none(self):
        for rounds in all_rounds():
            ring = short_ring(rounds)
            self.assertEqual(ring, short_ring(rounds=rounds))
            self.assertEqual(ring is None, perfect_by_search(rounds))
            if ring is not None:
                self.assert_ring(rounds, ring)

    def test_in_any_order(self):
        for seed in range(30):
            for many in (8, 10):
                rounds = mixed(by_bits() if many == 8 else around(10), seed)
                self.assert_ring(rounds, short_ring(rounds))


def table_by_hand(kind, rounds):
    """The table of rounds, by the words of point [14]."""
    many = len(rounds) + 1
    letters = "abcdefgh"
    columns = []
    for at, pairs in enumerate(rounds):
        sums = tuple(letters[one] for one, other in pairs if other == many - 1 and one < many - 2)
        data = tuple((letters[one], letters[other]) for one, other in pairs if other < many - 2)
        columns.append(("r" + letters[at], sums, data))
    return Table(kind, tuple(columns))


class TableOf(Case):
    def test_all_kinds_and_places(self):
        for kind in KINDS:
            for rounds in all_rounds():
                if len(rounds) <= 7:
                    table = table_of(kind, rounds)
                    self.assertIs(type(table), Table)
                    self.assertEqual(table, table_by_hand(kind, rounds))
                    self.assertEqual((len(table.sums), len(table.names)), (len(rounds) - 1, len(rounds)))
                    self.assertEqual(len(table.data), (len(rounds) - 1) * (len(rounds) - 2) // 2)
                    self.assertEqual(sorted(table.sums), sorted("abcdef"[:len(rounds) - 1]))

    def test_named(self):
        four = table_of("plain", prime_rounds(3))
        # The places are a and b, 2 and 3; a is beside the last one, then b, then 2, which is no sum.
        self.assertEqual(four.columns, (("ra", ("a",), ()), ("rb", ("b",), ()), ("rc", (), (("a", "b"),))))
        five = table_of(kind=12, rounds=prime_rounds(5))
        self.assertEqual(five.columns[:2], (("ra", ("a",), (("c", "d"),)), ("rb", ("b",), (("a", "c"),))))
        self.assertEqual(five.columns[4], ("re", (), (("a", "d"), ("b", "c"))))
        self.assertEqual(five.kind, 12)

    def test_any_two_columns_of_perfect_rounds_come_back(self):
        for kind in KINDS:
            for prime in (3, 5, 7):
                table = table_of(kind, mixed(prime_rounds(prime), prime))
                self.assertGreaterEqual(strength(table), 2)
                for names in itertools.combinations(table.names, 2):
                    self.assertIs(columns_back(table, names), True)
            self.assertLess(strength(table_of(kind, by_bits())), 2)

    def test_kind_comes_first(self):
        for kind in ["", "Bits", "odd", 2, -3, 10 ** 9 + 1, *not_integers()]:
            for rounds in [prime_rounds(3), prime_rounds(11), None, (), ((),), [1]]:
                self.assert_told(InvalidKind, kind, table_of, kind, rounds)
                self.assert_told(InvalidKind, kind, table_of, rounds=rounds, kind=kind)

    def test_ten_places_and_more(self):
        for many in (10, 12, 14):
            self.assert_told(InvalidRounds, None, table_of, "bits", around(many))
            self.assertIn(are_perfect(around(many)), (True, False))
        self.assert_told(InvalidRounds, None, table_of, 3, (None,) * 9)


class WrongRounds(Case):
    def assert_index(self, index, rounds):
        self.assert_told(InvalidRounds, index, are_perfect, rounds)
        self.assert_told(InvalidRounds, index, short_ring, rounds=rounds)
        small = not isinstance(rounds, tuple) or len(rounds) <= 7
        self.assert_told(InvalidRounds, index if small else None, table_of, "plain", rounds)

    def test_no_tuples_and_other_numbers(self):
        for rounds in [[], [*prime_rounds(5)], {}, "", "abc", None, True, 0, 3, {1, 2, 3}, Anything(), b"abc", tuple,
                       dict(enumerate(prime_rounds(3)))]:
            self.assert_index(None, rounds)
        for many in [0, 1, 2, 4, 6, 8, 10, 12, 14, 15, 16, 17, 100]:
            self.assert_index(None, (None,) * many)
            self.assert_index(None, tuple(prime_rounds(13) * 8)[:many])
        self.assert_index(None, ((((0, 1),),)))
        self.assert_index(None, prime_rounds(5)[:4])

    def exchanged(self, rounds, at, pairs):
        return rounds[:at] + (pairs,) + rounds[at + 1:]

    def test_wrong_rounds(self):
        wrong = [None, True, 0, "", "ab", [], {}, (), Anything(), {(0, 5)}, ((0, 5), (1, 4)),
                 ((0, 5), (1, 4), (2, 3), (2, 3)), (0, 1, 2), ((0,), (1,), (2,))]
        for many in (4, 6, 8, 10, 12, 14):
            rounds = around(many)
            for at in range(len(rounds)):
                for pairs in wrong:
                    self.assert_index(at, self.exchanged(rounds, at, pairs))
                self.assert_index(at, self.exchanged(rounds, at, list(rounds[at])))
                self.assert_index(at, self.exchanged(rounds, at, rounds[at][::-1]))
                self.assert_index(at, self.exchanged(rounds, at, rounds[at][1:]))
                self.assert_index(at, self.exchanged(rounds, at, rounds[at] + rounds[at][:1]))
                self.assert_index(at, self.exchanged(rounds, at, rounds[at][:1] * len(rounds[at])))

    def test_wrong_pairs(self):
        for many in (4, 6, 8, 14):
            rounds = around(many)
            for at in range(len(rounds)):
                for place, (one, other) in enumerate(rounds[at]):
                    wrong = [(other, one), (one, one), (one,), (one, other, other), (one, other + many), (one, many),
                             (-1, other), (one - many, other), [one, other], None, 0, "ab", "", (), {one: other},
                             (one, True), (False, other), (None, other), (one, str(other)), (one, (other,)),
                             (one, Anything()), (Anything(), other), Anything(), ((one, other),), (one, 10 ** 79)]
                    for pair in wrong:
                        pairs = rounds[at][:place] + (pair,) + rounds[at][place + 1:]
                        self.assert_index(at, self.exchanged(rounds, at, pairs))

    def test_a_place_twice(self):
        rounds = around(6)
        self.assertEqual(rounds[1], ((0, 2), (1, 5), (3, 4)))
        for pairs in [((0, 2), (1, 5), (1, 4)), ((0, 2), (0, 5), (3, 4)), ((0, 1), (1, 5), (3, 4)),
                      ((0, 2), (0, 2), (3, 4)), ((0, 2), (2, 5), (3, 4)), ((0, 5), (1, 5), (3, 4))]:
            self.assert_index(1, self.exchanged(rounds, 1, pairs))

    def test_true_and_false(self):
        rounds = around(4)
        self.assertEqual(rounds[2], ((0, 1), (2, 3)))
        for pair in [(False, 1), (0, True), (False, True)]:
            self.assert_index(2, rounds[:2] + ((pair, (2, 3)),))

    def test_a_pair_that_stood_before(self):
        for many in (4, 6, 8, 10, 14):
            rounds = around(many)
            for at in range(1, len(rounds)):
                for before in range(at):
                    self.assert_index(at, self.exchanged(rounds, at, rounds[before]))
        # Only one of the pairs stood before.
        rounds = ((((0, 1), (2, 3), (4, 5))), ((0, 2), (1, 4), (3, 5)), ((0, 3), (1, 2), (4, 5)),
                  ((0, 4), (1, 5), (2, 3)), ((0, 5), (1, 3), (2, 4)))
        self.assert_index(2, rounds)

    def test_the_first_fault_is_told(self):
        rounds = around(8)
        self.assert_index(2, self.exchanged(self.exchanged(rounds, 2, None), 5, rounds[0]))
        self.assert_index(2, self.exchanged(self.exchanged(rounds, 5, None), 2, rounds[0]))
        self.assert_index(1, rounds[:1] * 7)
        self.assert_index(0, (None,) * 7)
        self.assert_index(0, (rounds[0][::-1],) * 7)

    def test_nothing_is_changed(self):
        rounds = [list(pairs) for pairs in around(4)]
        for call in [are_perfect, short_ring]:
            with self.assertRaises(InvalidRounds):
                call(tuple(rounds))
        self.assertEqual(rounds, [list(pairs) for pairs in around(4)])

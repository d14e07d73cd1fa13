"""The examples of the document, as they stand there, and what there is in the files of the interface."""

import doctest
import importlib
import inspect
import unittest

# The lists that the document shows, row by row.
EXAMPLES = r"""
>>> from pairsums.tables import Table
>>> side = Table("plain", (("left", ("p",), (("p", "q"),)), ("right", ("q",), ()), ("far", (), (("p", "q"),))))
>>> [side.cells, side.cells_of("right"), side.column_of(("datum", 1)), side.full((5, -2)), side.is_right((3, 5, 3, -2)), side.is_right((3, 5, 4, -2)), repr(side)]
[(('sum', 'p'), ('datum', 0), ('sum', 'q'), ('datum', 1)), (('sum', 'q'),), 'far', (3, 5, 3, -2), True, False, 'Table of 3 columns, 2 sums and 2 data']
>>> from pairsums.rounds import are_perfect, prime_rounds, short_ring, table_of
>>> five = table_of("bits", prime_rounds(5))
>>> [prime_rounds(3), are_perfect(prime_rounds(13)), five.names, five.sums, five.data]
[(((0, 3), (1, 2)), ((0, 2), (1, 3)), ((0, 1), (2, 3))), True, ('ra', 'rb', 'rc', 'rd', 're'), ('a', 'b', 'c', 'd'), (('c', 'd'), ('a', 'c'), ('b', 'd'), ('a', 'b'), ('a', 'd'), ('b', 'c'))]
>>> [five.full((1, 2, 3, 4, 5, 6)), str(five).split("\n")[:4], five.cells_of("re"), short_ring(prime_rounds(5))]
[(3, 1, 1, 2, 5, 3, 7, 4, 5, 6), ['kind bits', 'column ra', 'sum a', 'datum c d'], (('datum', 4), ('datum', 5)), None]
>>> from pairsums.losing import back, change, comes_back, count_back, fewest_gone, kinds_back, parts, recipe, restored
>>> three = (("datum", 1), ("datum", 3), ("datum", 5))
>>> flat, dial = table_of("plain", prime_rounds(5)), table_of(12, prime_rounds(5))
>>> [back(five, three), back(flat, three), back(dial, three), comes_back(table_of(9, prime_rounds(5)), three)]
[(), (('datum', 1), ('datum', 3), ('datum', 5)), (), True]
>>> [recipe(flat, three, ("datum", 1))[0], recipe(five, three, ("datum", 3)), change(five, three, ("datum", 3)), change(dial, three, ("datum", 3)), change(flat, three, ("datum", 3)), fewest_gone(five), count_back(five, 1)]
[2, None, (0, 1, 0, 1, 0, 1), (0, 6, 0, 6, 0, 6), None, 3, 10]
>>> [kinds_back(five, three, ("datum", 5)), kinds_back(five, (("sum", "a"), ("datum", 0), ("datum", 5)), ("sum", "a")), parts(five, three), parts(five, (("sum", "a"), ("datum", 0), ("datum", 1), ("datum", 3)))]
[('odd', 'plain'), ('bits', 'even', 'odd', 'plain'), ((('a', 'b', 'c'), (1, 3, 5), ()),), ((('b',), (3,), (3,)), (('c', 'd'), (0, 1), (1,)))]
>>> restored(five, (("sum", "a"), ("datum", 0), ("sum", "b"), ("datum", 1)), (0, 0, 0, 0, 5, 3, 7, 4, 5, 6))
(3, 1, 1, 2, 5, 3, 7, 4, 5, 6)
>>> from pairsums.columns import columns_back, finds_wrong, joined, least_losses, strength
>>> [columns_back(five, ("re", "ra")), strength(five), len(least_losses(five)), least_losses(side), strength(side), finds_wrong(five, ()), finds_wrong(five, ("ra",)), strength(joined(five, ("more", (), (("a", "b"),)))), strength(joined(five, ("more", ("z",), ())))]
[True, 2, 10, (('left', 'right'), ('left', 'far')), 1, True, False, 1, 2]
"""

INTERFACE = {
    "rounds": ("prime_rounds", "are_perfect", "short_ring", "table_of"),
    "losing": ("comes_back", "back", "kinds_back", "parts", "recipe", "change", "restored", "fewest_gone",
               "count_back"),
    "columns": ("columns_back", "strength", "least_losses", "joined", "finds_wrong"),
}


class Examples(unittest.TestCase):
    def test_examples(self):
        known = {}
        for example in doctest.DocTestParser().get_examples(EXAMPLES):
            if example.want:
                self.assertEqual(repr(eval(example.source, known)) + "\n", example.want, example.source)
            else:
                exec(example.source, known)

    def test_each_function_stands_in_its_file(self):
        for file, names in INTERFACE.items():
            module = importlib.import_module("pairsums." + file)
            for name in names:
                self.assertTrue(inspect.isfunction(getattr(module, name)))
                self.assertEqual(getattr(module, name).__module__, module.__name__)

"""The examples of the document, as they stand there, and what there is in the files of the interface."""

import doctest
import importlib
import inspect
import unittest

from pairsums.errors import NoAnswer, WrongName, WrongValue

# The lists that the document shows, row by row.
EXAMPLES = r"""
>>> from pairsums.tables import Table
>>> side = Table("plain", (("left", ("p",), (("p", "q"),)), ("right", ("q",), ()), ("far", (), (("p", "q"),))))
>>> [side.cells, side.cells_of("right"), side.column_of(("datum", 1)), side.full((5, -2)), side.is_right((3, 5, 3, -2)), side.is_right((3, 5, 4, -2)), repr(side)]
[(('sum', 'p'), ('datum', 0), ('sum', 'q'), ('datum', 1)), (('sum', 'q'),), 'far', (3, 5, 3, -2), True, False, 'Table of 3 columns, 2 sums and 2 data']
>>> from pairsums.rounds import are_perfect, prime_rounds, short_ring, table_of
>>> five = table_of("bits", prime_rounds(5))
>>> [prime_rounds(3), are_perfect(prime_rounds(13)), five.names, five.sums, five.data]
[(((0, 3), (1, 2)), ((0, 2), (1, 3)), ((0, 1), (2, 3))), True, ('ra', 'rb', 'rc', 'rd', 're'), ('a', 'b', 'c', 'd'), (('c', 'd'), ('a', 'c'), ('b', 'd'), ('a', 'b'), ('a', 'd'), ('b', 'c'))]
>>> [five.full((1, 2, 3, 4, 5, 6)), str(five).split("\n")[:4], five.cells_of("re"), short_ring(prime_rounds(5))]
[(3, 1, 1, 2, 5, 3, 7, 4, 5, 6), ['kind bits', 'column ra', 'sum a', 'datum c d'], (('datum', 4), ('datum', 5)), None]
>>> from pairsums.losing import back, change, comes_back, count_back, fewest_gone, kinds_back, parts, recipe, restored
>>> three = (("datum", 1), ("datum", 3), ("datum", 5))
>>> flat, dial = table_of("plain", prime_rounds(5)), table_of(12, prime_rounds(5))
>>> [back(five, three), back(flat, three), back(dial, three), comes_back(table_of(9, prime_rounds(5)), three)]
[(), (('datum', 1), ('datum', 3), ('datum', 5)), (), True]
>>> [recipe(flat, three, ("datum", 1))[0], recipe(five, three, ("datum", 3)), change(five, three, ("datum", 3)), change(dial, three, ("datum", 3)), change(flat, three, ("datum", 3)), fewest_gone(five), count_back(five, 1)]
[2, None, (0, 1, 0, 1, 0, 1), (0, 6, 0, 6, 0, 6), None, 3, 10]
>>> [kinds_back(five, three, ("datum", 5)), kinds_back(five, (("sum", "a"), ("datum", 0), ("datum", 5)), ("sum", "a")), parts(five, three), parts(five, (("sum", "a"), ("datum", 0), ("datum", 1), ("datum", 3)))]
[('odd', 'plain'), ('bits', 'even', 'odd', 'plain'), ((('a', 'b', 'c'), (1, 3, 5), ()),), ((('b',), (3,), (3,)), (('c', 'd'), (0, 1), (1,)))]
>>> restored(five, (("sum", "a"), ("datum", 0), ("sum", "b"), ("datum", 1)), (0, 0, 0, 0, 5, 3, 7, 4, 5, 6))
(3, 1, 1, 2, 5, 3, 7, 4, 5, 6)
>>> from pairsums.columns import columns_back, finds_wrong, joined, least_losses, strength
>>> [columns_back(five, ("re", "ra")), strength(five), len(least_losses(five)), least_losses(side), strength(side), finds_wrong(five, ()), finds_wrong(five, ("ra",)), strength(joined(five, ("more", (), (("a", "b"),)))), strength(joined(five, ("more", ("z",), ())))]
[True, 2, 10, (('left', 'right'), ('left', 'far')), 1, True, False, 1, 2]
>>> from pairsums.reading import fewest_reads, reading
>>> [fewest_reads(five, "ra"), len(reading(five, "ra")), fewest_reads(side, "right"), reading(side, "right"), fewest_reads(side, "far")]
[5, 2, 2, ((('sum', 'q'), 'q'),), 2]
>>> from pairsums.wrong import lacks, righted, suspects
>>> [lacks(five, (3, 0, 1, 2, 5, 3, 7, 4, 5, 6)), lacks(side, (3, 5, 4, -2)), lacks(side, (3, 5, 3, -2))]
[(('c', 1), ('d', 1)), (('q', -1),), ()]
>>> [suspects(five, (3, 0, 1, 2, 5, 3, 7, 4, 5, 6)), righted(five, (3, 0, 1, 2, 5, 3, 7, 4, 5, 6), "ra"), suspects(side, (3, 5, 3, -2)), suspects(side, (3, 5, 4, -2))]
[('ra',), (3, 1, 1, 2, 5, 3, 7, 4, 5, 6), ('left', 'right', 'far'), ('left', 'right')]
>>> from pairsums.desks import Desk
>>> desk = Desk(five, (1, 2, 3, 4, 5, 6))
>>> [desk.put(3, 7), desk.lose_column("ra"), desk.lose((("datum", 2),)), desk.lost, desk.hope(), desk.mend(), desk.cells, desk.changes]
[(('sum', 'a'), ('sum', 'b'), ('datum', 3)), None, None, (('sum', 'a'), ('datum', 0), ('datum', 2)), (('sum', 'a'), ('datum', 0), ('datum', 2)), (('sum', 'a'), ('datum', 0), ('datum', 2)), (0, 1, 2, 2, 5, 3, 7, 7, 5, 6), 4]
>>> desk.give(("datum", 0), 1)
raises NotLost(given=('datum', 0))
>>> from pairsums.books import Book
>>> book = Book()
>>> [book.do_all(("put", "main", five), ("wish", ("strong", "main", 2)), ("wish", ("reads", "main", "ra", 5))), book.names, book.changes]
[3, ('main',), 3]
>>> book.do_all(("put", "main", side))
raises Broken(index=0)
>>> from pairsums.certificates import certify_cell, certify_strength, certify_wrong
>>> from pairsums.checker import accepts
>>> claim, paper = certify_cell(five, three, ("datum", 3))
>>> [claim[0], paper, accepts(claim, paper), accepts(claim, (0, 1, 0, 1, 0, 0)), certify_strength(five, 2)[1], certify_strength(side, 2)[0][0]]
['gone', (0, 1, 0, 1, 0, 1), True, False, (), 'weak']
>>> [certify_wrong(side, (3, 5, 4, -2), "right")[1], certify_wrong(side, (3, 5, 4, -2), "far"), certify_wrong(side, (3, 5, 4, -2), "left")[1], accepts(("back", str(five), three[:1], three[0]), (1, ((("sum", "a"), 1), (("datum", 3), 1), (("datum", 4), 1))))]
[(3,), None, (4, 6), True]
>>> from pairsums.console import Console
>>> console = Console(five, (1, 2, 3, 4, 5, 6))
>>> [console.say("lose column ra"), console.say("lose datum 2"), console.say("lost"), console.say("mend"), console.say("show sum a"), console.say("put 0 9"), console.say("give datum 0 9")]
['ok', 'ok', 'sum a, datum 0, datum 2', 'sum a, datum 0, datum 2', '3', 'datum 0, sum c, sum d', 'NotLost']
>>> console.say("lose sum z")
raises InvalidLine(given='lose sum z')
"""

INTERFACE = {
    "tables": ("Table",),
    "rounds": ("prime_rounds", "are_perfect", "short_ring", "table_of"),
    "losing": ("comes_back", "back", "kinds_back", "parts", "recipe", "change", "restored", "fewest_gone",
               "count_back"),
    "columns": ("columns_back", "strength", "least_losses", "joined", "finds_wrong"),
    "reading": ("fewest_reads", "reading"),
    "wrong": ("lacks", "suspects", "righted"),
    "desks": ("Desk",),
    "books": ("Book",),
    "checker": ("accepts",),
    "certificates": ("certify_cell", "certify_strength", "certify_wrong"),
    "console": ("Console",),
}

METHODS = {
    "Table": ("cells_of", "column_of", "full", "is_right", "read", "__eq__", "__str__", "__repr__"),
    "Desk": ("put", "lose", "lose_column", "mend", "give", "hope", "undo", "trial", "tried"),
    "Book": ("__setitem__", "__getitem__", "__contains__", "__len__", "__bool__", "drop", "wish", "lift", "undo",
             "do_all", "trial", "tried"),
    "Console": ("say",),
}
PROPERTIES = {
    "Table": ("kind", "columns", "names", "sums", "data", "cells"),
    "Desk": ("table", "lost", "cells", "changes"),
    "Book": ("names", "wishes", "changes"),
    "Console": (),
}


def error_told(source, known):
    """The error that an example raises, in the way in which the document shows it."""
    try:
        eval(source, known)
    except (WrongValue, WrongName, NoAnswer) as error:
        told = ", ".join(f"{name}={value!r}" for name, value in vars(error).items())
        return f"{type(error).__name__}({told})"
    return None


class Examples(unittest.TestCase):
    def test_examples(self):
        known = {}
        for example in doctest.DocTestParser().get_examples(EXAMPLES):
            if example.want.startswith("raises "):
                self.assertEqual(error_told(example.source, known), example.want[len("raises "):].strip())
            elif example.want:
                self.assertEqual(repr(eval(example.source, known)) + "\n", example.want, example.source)
            else:
                exec(example.source, known)

    def test_all_stand_in_their_files(self):
        for file, names in INTERFACE.items():
            module = importlib.import_module("pairsums." + file)
            for name in names:
                value = getattr(module, name)
                self.assertTrue(inspect.isfunction(value) or inspect.isclass(value))
                self.assertEqual(value.__module__, module.__name__)

    def test_methods_stand_in_their_classes(self):
        for file, names in INTERFACE.items():
            for name in set(names) & set(METHODS):
                own = vars(getattr(importlib.import_module("pairsums." + file), name))
                for method in METHODS[name]:
                    self.assertTrue(inspect.isfunction(own[method]) or isinstance(own[method], staticmethod))
                for each in PROPERTIES[name]:
                    self.assertIsInstance(own[each], property)

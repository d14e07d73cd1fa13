"""The errors of `table`, `lost`, `cells` and the like, in each function: points [4], [5] and the interface."""

import inspect
import itertools

from pairsums import certificates, columns, console, desks, losing, reading, wrong
from pairsums.errors import (InvalidCells, InvalidLost, InvalidNames, InvalidNumber, InvalidValues, NotATable, NotLost,
                             UnknownName)
from pairsums.tables import Table
from tests.kit import Anything, Case, formed, not_cells, not_integers, not_names, not_tables, not_tuples, side

SIGNATURES = {
    losing.comes_back: ("table", "lost"),
    losing.back: ("table", "lost"),
    losing.kinds_back: ("table", "lost", "cell"),
    losing.parts: ("table", "lost"),
    losing.recipe: ("table", "lost", "cell"),
    losing.change: ("table", "lost", "cell"),
    losing.restored: ("table", "lost", "cells"),
    losing.fewest_gone: ("table",),
    losing.count_back: ("table", "number"),
    columns.columns_back: ("table", "names"),
    columns.strength: ("table",),
    columns.least_losses: ("table",),
    columns.joined: ("table", "column"),
    columns.finds_wrong: ("table", "names"),
    reading.fewest_reads: ("table", "name"),
    reading.reading: ("table", "name"),
    wrong.lacks: ("table", "cells"),
    wrong.suspects: ("table", "cells"),
    wrong.righted: ("table", "cells", "name"),
    desks.Desk: ("table", "values"),
    certificates.certify_cell: ("table", "lost", "cell"),
    certificates.certify_strength: ("table", "number"),
    certificates.certify_wrong: ("table", "cells", "name"),
    console.Console: ("table", "values"),
}
P, Q, FIRST, SECOND = ("sum", "p"), ("sum", "q"), ("datum", 0), ("datum", 1)

# Valid arguments for the table `side`, whose cells are P, FIRST, Q, SECOND.
RIGHT = {"lost": (FIRST, P), "cell": P, "cells": (3, 5, 3, -2), "names": ("far", "left"), "number": 2,
         "column": ("more", (), ()), "name": "far", "values": (5, -2)}


def shown(value):
    """What can be compared of a result: a desk and a console equal themselves alone."""
    if isinstance(value, console.Console):
        return [value.say("show sum p"), value.say("show datum 1")]
    return value.cells if isinstance(value, desks.Desk) else value


def calls_with(parameter):
    return [call for call, parameters in SIGNATURES.items() if parameter in parameters]


class Arguments(Case):
    def assert_both_ways(self, error, value, call, arguments):
        """That the error is told, whether the arguments are passed by position or by name, in any order."""
        parameters = SIGNATURES[call]
        self.assert_told(error, value, call, *[arguments[name] for name in parameters])
        self.assert_told(error, value, call, **{name: arguments[name] for name in parameters[::-1]})

    def assert_error(self, error, value, parameter, given, others=None):
        """That each function with the parameter tells the error if this is given, and others behind it are wrong."""
        for call in calls_with(parameter):
            for behind in [{}, others] if others else [{}]:
                arguments = {"table": side(), **RIGHT, **behind, parameter: given}
                self.assert_both_ways(error, value, call, arguments)

    def test_signatures(self):
        for call, parameters in SIGNATURES.items():
            self.assertEqual(tuple(inspect.signature(call).parameters), parameters)
            arguments = {"table": side(), **RIGHT}
            self.assertEqual(shown(call(*[arguments[name] for name in parameters])),
                             shown(call(**{name: arguments[name] for name in parameters[::-1]})))

    def test_defined_in_their_files(self):
        for module, many in [(losing, 9), (columns, 5), (reading, 2), (wrong, 3), (desks, 1), (certificates, 3),
                             (console, 1)]:
            own = [call for call in SIGNATURES if call.__module__ == module.__name__]
            self.assertEqual(len(own), many)
            self.assertTrue(all(getattr(module, call.__name__) is call for call in own))

    def test_not_a_table(self):
        others = {parameter: None for parameter in RIGHT}
        for table in not_tables():
            self.assert_error(NotATable, table, "table", table, others)

    def test_lost_that_are_no_tuple(self):
        for lost in not_tuples():
            self.assert_error(InvalidLost, None, "lost", lost, {"cell": None, "cells": None})
        self.assert_error(InvalidLost, None, "lost", [FIRST, P])

    def test_lost_with_what_is_no_cell(self):
        for cell in not_cells():
            for lost, index in [((cell,), 0), ((P, cell), 1), ((SECOND, Q, cell, P), 2), ((cell, P, P), 0),
                                ((P, cell, P), 1), ((cell, cell), 0)]:
                self.assert_error(InvalidLost, index, "lost", lost)
        self.assert_error(InvalidLost, 1, "lost", (P, None), {"cell": None, "cells": None})
        self.assert_error(InvalidLost, 0, "lost", ((P,), P), {"cell": None, "cells": None})
        # A tuple of two is no cell, and a cell is no tuple of cells.
        self.assert_error(InvalidLost, 0, "lost", P)
        self.assert_error(InvalidLost, 0, "lost", FIRST)

    def test_lost_with_a_cell_that_stood_before(self):
        cells = (P, FIRST, Q, SECOND)
        for order in itertools.permutations(cells):
            self.assert_error(InvalidLost, 4, "lost", (*order, order[0]), {"cell": None, "cells": None})
            self.assert_error(InvalidLost, 1, "lost", (order[0], order[0], None))
            self.assert_error(InvalidLost, 2, "lost", (order[1], order[0], order[1], order[0]))
        self.assert_error(InvalidLost, 4, "lost", cells * 100)

    def test_true_and_false_are_no_numbers_of_data(self):
        self.assert_error(InvalidLost, 1, "lost", (FIRST, ("datum", True)))
        self.assert_error(InvalidLost, 0, "lost", (("datum", False), FIRST))
        self.assert_error(InvalidLost, 1, "lost", (SECOND, ("datum", True)))
        for call in calls_with("cell"):
            for cell in [("datum", True), ("datum", False)]:
                arguments = {"table": side(), "lost": (FIRST, SECOND), "cell": cell}
                self.assert_both_ways(NotLost, cell, call, arguments)

    def test_a_cell_that_is_not_lost(self):
        for cell in not_cells() + [Q, SECOND]:
            self.assert_error(NotLost, cell, "cell", cell)
        for call in calls_with("cell"):
            for lost in [(), (P,), (Q, SECOND)]:
                self.assert_both_ways(NotLost, FIRST, call, {"table": side(), "lost": lost, "cell": FIRST})
                self.assert_both_ways(NotLost, lost, call, {"table": side(), "lost": lost, "cell": lost})

    def test_cells(self):
        for value in [*not_integers(), 10 ** 32 + 1, -10 ** 32 - 1, 10 ** 79]:
            for at in range(4):
                self.assert_error(InvalidCells, at, "cells", (0,) * at + (value,) + (0,) * (3 - at), {"name": None})
                self.assert_error(InvalidCells, at, "cells", (0,) * at + (value,) * (4 - at))
        for value in [10 ** 30 + 1, -10 ** 30 - 1, 10 ** 32]:
            self.assert_error(InvalidCells, 1, "cells", (value, value, value, value))
            self.assert_error(InvalidCells, 3, "cells", (value, 0, value, value))
        for cells in [*not_tuples(), (), (0,), (0,) * 3, (0,) * 5, (None,) * 5, [0, 0, 0, 0], (None,) * 3]:
            self.assert_error(InvalidCells, None, "cells", cells, {"name": None})
        for kind, beyond in [("bits", (-1, 2 ** 60)), (3, (-1, 3)), (10 ** 9, (-1, 10 ** 9))]:
            for value in beyond:
                for at in range(4):
                    passed = (0,) * at + (value,) + (None,) * (3 - at)
                    self.assert_told(InvalidCells, at, losing.restored, side(kind), (), passed)

    def test_values(self):
        for value in [*not_integers(), 10 ** 30 + 1, -10 ** 30 - 1, 10 ** 32, 10 ** 79]:
            self.assert_error(InvalidValues, 0, "values", (value, 0))
            self.assert_error(InvalidValues, 1, "values", (0, value))
            self.assert_error(InvalidValues, 0, "values", (value, value))
        for values in [*not_tuples(), (), (0,), (0, 0, 0), (None,) * 3, [0, 0]]:
            self.assert_error(InvalidValues, None, "values", values)
        for kind, beyond in [("bits", (-1, 2 ** 60)), (3, (-1, 3)), (10 ** 9, (-1, 10 ** 9))]:
            for value in beyond:
                for call in calls_with("values"):
                    self.assert_told(InvalidValues, 1, call, side(kind), (0, value))
                    self.assert_told(InvalidValues, 0, call, side(kind), (value, None))

    def test_name(self):
        for name in [*not_names(), "p", "q", "lef", "leftt", "sum", "rights", ("left",), P, ["left"]]:
            self.assert_error(UnknownName, name, "name", name)
            self.assert_told(UnknownName, name, wrong.righted, side(), (3, 5, 4, -2), name)

    def test_names_that_are_no_tuple(self):
        for names in not_tuples():
            self.assert_error(InvalidNames, None, "names", names)
        self.assert_error(InvalidNames, None, "names", ["far", "left"])

    def test_names_that_are_no_columns(self):
        for name in [*not_names(), "p", "q", "lef", "leftt", "sum", "rights", ("left",), P]:
            for names, index in [((name,), 0), (("far", name), 1), (("right", "far", name, "left"), 2),
                                 ((name, "far", "far"), 0), ((name, name), 0)]:
                self.assert_error(InvalidNames, index, "names", names)

    def test_names_that_stood_before(self):
        for order in itertools.permutations(side().names):
            self.assert_error(InvalidNames, 3, "names", (*order, order[1], None))
            self.assert_error(InvalidNames, 1, "names", (order[0], order[0]))
            self.assert_error(InvalidNames, 2, "names", (order[2], order[0], order[2], Anything()))

    def test_numbers(self):
        for number in [*not_integers(), -1, -10 ** 79]:
            self.assert_error(InvalidNumber, number, "number", number)
        for number in [4, 10 ** 79]:
            self.assert_both_ways(InvalidNumber, number, losing.count_back, {"table": side(), "number": number})
            self.assertEqual(certificates.certify_strength(side(), number)[0], ("weak", str(side()), number))

    def test_nothing_is_changed(self):
        lost, cells, names = [FIRST, P], [3, 5, 3, -2], ["far"]
        table = formed("star", "plain")
        text = str(table)
        for call, arguments in [(losing.back, (lost,)), (losing.restored, ((), cells)), (columns.finds_wrong, (names,)),
                                (losing.recipe, ((lost,), P)), (losing.change, ((P,), lost))]:
            with self.assertRaises((InvalidLost, InvalidCells, InvalidNames, NotLost)):
                call(table, *arguments)
        self.assertEqual((lost, cells, names), ([FIRST, P], [3, 5, 3, -2], ["far"]))
        self.assertEqual(str(table), text)
        self.assertEqual(table, Table.read(text))

"""Desks: points [2], [3], [9], [10] and the interface, "pairsums/desks.py"; trials stand in test_desks_trials."""

import inspect
import random

from pairsums.desks import Desk
from pairsums.errors import (InvalidLost, InvalidNumber, InvalidValues, NotATable, NotBack, NothingToUndo, NotLost,
                             NotReady, UnknownName)
from pairsums.tables import Table
from tests.kit import (FORMS, KINDS, Anything, Case, formed, not_cells, not_integers, not_names, not_strings,
                       not_tables, not_tuples, places, side, tables, widest)
from tests.search import back_by_elimination, back_by_search
from tests.test_tables_values import filled, some_values

P, Q, FIRST, SECOND = ("sum", "p"), ("sum", "q"), ("datum", 0), ("datum", 1)


def seen(desk):
    """All that a desk shows."""
    return desk.lost, desk.cells, desk.changes, desk.hope()


def back_of(table, lost):
    """The lost cells that come back, told by a search of the tests, None if there is none for the table."""
    if table.kind in ("bits", "plain", 3, 5, 7):
        return back_by_elimination(table, lost)
    many = len([what for what, _ in lost if what == "datum"])
    return back_by_search(table, lost) if isinstance(table.kind, int) and table.kind ** many < 3000 else None


class Model:
    """What a desk is held against: its values and lost cells, and all earlier ones."""

    def __init__(self, table, values):
        self.table, self.past = table, []
        self.now = (values, frozenset())

    def go_on(self, values, lost):
        self.past.append(self.now)
        self.now = (values, frozenset(lost))

    def in_order(self, cells):
        return tuple(cell for cell in self.table.cells if cell in cells)

    def full(self):
        return dict(zip(self.table.cells, filled(self.table, self.now[0])))

    def put(self, number, value):
        before = self.full()
        values, lost = self.now
        self.go_on(values[:number] + (value,) + values[number + 1:], lost)
        return self.in_order([cell for cell, now in self.full().items() if now != before[cell]])

    def lose(self, lost):
        self.go_on(self.now[0], self.now[1] | set(lost))

    def lose_column(self, name):
        self.lose(self.table.cells_of(name))

    def mend(self, found):
        self.go_on(self.now[0], self.now[1] - set(found))

    def give(self, cell):
        self.go_on(self.now[0], self.now[1] - {cell})

    def cells(self):
        return tuple(None if cell in self.now[1] else value for cell, value in self.full().items())


class Walk(Case):
    """Desks along many changes, beside the model."""

    def assert_same(self, desk, model):
        self.assertEqual(desk.lost, model.in_order(model.now[1]))
        self.assertEqual(desk.cells, model.cells())
        self.assertEqual(desk.changes, len(model.past))
        expected = back_of(desk.table, desk.lost)
        if expected is not None:
            self.assertEqual(desk.hope(), expected)
        self.assert_plain(seen(desk))

    def one_step(self, desk, model, chance, values):
        table, lost = desk.table, desk.lost
        deed = chance.choice(["put", "put", "lose", "lose", "lose_column", "mend", "give", "undo"])
        left = [cell for cell in table.cells if cell not in lost]
        if deed == "put" and table.data and not lost:
            number = chance.randrange(len(table.data))
            value = chance.choice([chance.choice(values)[number], model.now[0][number]])
            told = desk.put(number, value)
            self.assertEqual(told, model.put(number, value))
        elif deed == "lose":
            more = tuple(chance.sample(left, min(len(left), chance.randint(0, 4))))
            told = desk.lose(more)
            self.assertIsNone(told)
            model.lose(more)
        elif deed == "lose_column":
            name = chance.choice(table.names)
            self.assertIsNone(desk.lose_column(name))
            model.lose_column(name)
        elif deed == "mend":
            hope = desk.hope()
            told = desk.mend()
            self.assertEqual(told, hope)
            model.mend(told)
        elif deed == "give" and lost:
            cell = chance.choice(lost)
            self.assertIsNone(desk.give(cell, model.full()[cell]))
            model.give(cell)
        elif deed == "undo" and model.past:
            self.assertIsNone(desk.undo())
            model.now = model.past.pop()

    def test_many_changes(self):
        chance = random.Random(21)
        found = [formed(form, chance.choice(KINDS)) for form in FORMS] + tables() + [places(kind, 5) for kind in KINDS]
        for table in found:
            values = list(some_values(table))
            desk, model = Desk(table, values[3]), Model(table, values[3])
            for _ in range(40):
                self.one_step(desk, model, chance, values)
                self.assert_same(desk, model)
            while model.past:
                desk.undo()
                model.now = model.past.pop()
                self.assert_same(desk, model)
            self.assert_told_none(NothingToUndo, desk.undo)
            self.assertEqual(desk.cells, table.full(values[3]))

    def assert_told_none(self, error, call, *passed):
        with self.assertRaises(error) as held:
            call(*passed)
        self.assertEqual(vars(held.exception), {})


class AtFirst(Case):
    def test_nothing_is_lost(self):
        for table in tables():
            for values in some_values(table):
                desk = Desk(table, values)
                self.assertEqual(seen(desk), ((), table.full(values), 0, ()))
                self.assertIs(desk.table, table)

    def test_by_name(self):
        desk = Desk(values=(5, -2), table=side())
        self.assertEqual(desk.cells, (3, 5, 3, -2))

    def test_signatures(self):
        found = {"put": ("number", "value"), "lose": ("lost",), "lose_column": ("name",), "mend": (),
                 "give": ("cell", "value"), "hope": (), "undo": (), "trial": (), "tried": ("action",)}
        for name, parameters in found.items():
            told = tuple(inspect.signature(getattr(Desk(side(), (5, -2)), name)).parameters)
            self.assertEqual(told, parameters)

    def test_errors(self):
        for table in not_tables():
            self.assert_told(NotATable, table, Desk, table, (5, -2))
            self.assert_told(NotATable, table, Desk, table, None)
        for values in [*not_tuples(), (), (5,), (5, -2, 0), [5, -2]]:
            self.assert_told(InvalidValues, None, Desk, side(), values)
        for value in [*not_integers(), 10 ** 30 + 1]:
            self.assert_told(InvalidValues, 1, Desk, side(), (5, value))

    def test_a_desk_equals_itself_alone(self):
        desk, other = Desk(side(), (5, -2)), Desk(side(), (5, -2))
        self.assertTrue(desk == desk and not desk != desk)
        for value in [other, desk.trial(), side(), None, 0, (), (side(), (5, -2)), Anything()]:
            self.assertTrue(desk != value and not desk == value)
        trial = desk.trial()
        self.assertTrue(trial == trial and not trial != trial)
        for value in [desk.trial(), desk, None, 0, Anything()]:
            self.assertTrue(trial != value and not trial == value)
        self.assertTrue(desk and trial and Desk(Table("bits", (("a", ("p",), ()),)), ()))


class Put(Case):
    def test_what_changes(self):
        desk = Desk(side(), (5, -2))
        self.assertEqual(desk.put(0, 6), (P, FIRST, Q))
        self.assertEqual(desk.cells, (4, 6, 4, -2))
        self.assertEqual(desk.put(value=7, number=1), (P, Q, SECOND))
        self.assertEqual((desk.cells, desk.changes, desk.lost), ((13, 6, 13, 7), 2, ()))

    def test_the_value_that_it_has(self):
        for kind in KINDS:
            desk = Desk(side(kind), (1, 2))
            self.assertEqual(desk.put(1, 2), ())
            self.assertEqual((desk.cells, desk.changes), (side(kind).full((1, 2)), 1))
            desk.undo()
            self.assertEqual((desk.cells, desk.changes), (side(kind).full((1, 2)), 0))

    def test_bounds(self):
        for kind, least, most in [("bits", 0, 2 ** 60 - 1), ("plain", -10 ** 30, 10 ** 30), (3, 0, 2), (12, 0, 11),
                                  (10 ** 9, 0, 10 ** 9 - 1)]:
            desk = Desk(side(kind), (1, 1))
            for value in [least, most]:
                self.assertEqual(desk.put(1, value), (P, Q, SECOND))
                self.assertEqual(desk.cells, side(kind).full((1, value)))
            before = seen(desk)
            for value in [least - 1, most + 1, *not_integers()]:
                self.assert_told(InvalidValues, 1, desk.put, 1, value)
                self.assert_told(InvalidValues, 0, desk.put, 0, value)
                self.assert_told(InvalidValues, 0, desk.put, value=value, number=0)
            self.assertEqual(seen(desk), before)

    def test_numbers(self):
        desk = Desk(side(), (5, -2))
        for number in [*not_integers(), -1, 2, 10 ** 79, -10 ** 79]:
            for value in [0, None, 10 ** 31]:
                self.assert_told(InvalidNumber, number, desk.put, number, value)
                self.assert_told(InvalidNumber, number, desk.put, value=value, number=number)
        self.assertEqual(seen(desk), ((), (3, 5, 3, -2), 0, ()))
        bare = Desk(Table("bits", (("a", ("p",), ()),)), ())
        self.assert_told(InvalidNumber, 0, bare.put, 0, 0)

    def test_not_ready(self):
        for lost, first in [((Q,), Q), ((SECOND, Q), Q), ((SECOND, Q, P), P), ((SECOND,), SECOND), ((Q, FIRST), FIRST)]:
            desk = Desk(side(), (5, -2))
            desk.lose(lost)
            before = seen(desk)
            for value in [5, 6]:
                with self.assertRaises(NotReady) as held:
                    desk.put(0, value)
                self.assertEqual(held.exception.given, first)
            self.assert_told(InvalidNumber, 2, desk.put, 2, 5)
            self.assert_told(InvalidValues, 0, desk.put, 0, True)
            self.assert_told(InvalidValues, 1, desk.put, 1, None)
            self.assertEqual(seen(desk), before)
            desk.undo()
            self.assertEqual(desk.put(0, 6), (P, FIRST, Q))


class Lose(Case):
    def test_no_cells(self):
        desk = Desk(side(), (5, -2))
        self.assertIsNone(desk.lose(()))
        self.assertEqual(seen(desk), ((), (3, 5, 3, -2), 1, ()))
        self.assertEqual(desk.put(0, 5), ())

    def test_cells_in_any_order(self):
        desk = Desk(side(), (5, -2))
        self.assertIsNone(desk.lose((SECOND, P)))
        self.assertEqual(seen(desk), ((P, SECOND), (None, 5, 3, None), 1, (P, SECOND)))
        self.assertIsNone(desk.lose(lost=(FIRST,)))
        self.assertEqual(seen(desk), ((P, FIRST, SECOND), (None, None, 3, None), 2, (P,)))

    def test_errors(self):
        desk = Desk(side(), (5, -2))
        desk.lose((FIRST, Q))
        before = seen(desk)
        for lost in not_tuples():
            self.assert_told(InvalidLost, None, desk.lose, lost)
        for cell in [*not_cells(), FIRST, Q]:
            self.assert_told(InvalidLost, 0, desk.lose, (cell,))
            self.assert_told(InvalidLost, 1, desk.lose, (P, cell))
            self.assert_told(InvalidLost, 2, desk.lose, lost=(P, SECOND, cell, cell))
        self.assert_told(InvalidLost, 1, desk.lose, (P, P, FIRST))
        self.assert_told(InvalidLost, 1, desk.lose, (P, FIRST, P))
        self.assert_told(InvalidLost, 0, desk.lose, P)
        self.assertEqual(seen(desk), before)

    def test_columns(self):
        desk = Desk(side(), (5, -2))
        self.assertIsNone(desk.lose_column("left"))
        self.assertEqual(seen(desk), ((P, FIRST), (None, None, 3, -2), 1, (P, FIRST)))
        # It is lost already, in part or whole.
        self.assertIsNone(desk.lose_column(name="left"))
        self.assertEqual(seen(desk), ((P, FIRST), (None, None, 3, -2), 2, (P, FIRST)))
        desk.give(P, 3)
        desk.lose_column("left")
        self.assertEqual(seen(desk), ((P, FIRST), (None, None, 3, -2), 4, (P, FIRST)))
        desk.undo()
        self.assertEqual(seen(desk), ((FIRST,), (3, None, 3, -2), 3, (FIRST,)))
        empty = Desk(Table("bits", (("a", (), ()), ("b", ("p",), ()))), ())
        empty.lose_column("a")
        self.assertEqual(seen(empty), ((), (0,), 1, ()))

    def test_columns_that_are_not_there(self):
        desk = Desk(side(), (5, -2))
        desk.lose((P,))
        before = seen(desk)
        for name in [*not_names(), *not_strings(), "p", "lef", "sum", ("left",), ["left"]]:
            self.assert_told(UnknownName, name, desk.lose_column, name)
            self.assert_told(UnknownName, name, desk.lose_column, name=name)
        self.assertEqual(seen(desk), before)


class Mend(Case):
    def test_nothing_lost(self):
        desk = Desk(side(), (5, -2))
        self.assertEqual(desk.mend(), ())
        self.assertEqual(seen(desk), ((), (3, 5, 3, -2), 1, ()))

    def test_what_does_not_come_back(self):
        desk = Desk(places("bits", 5), (1, 2, 3, 4, 5, 6))
        desk.lose((("datum", 5), ("datum", 3), ("datum", 1), ("datum", 0)))
        self.assertEqual(desk.mend(), (("datum", 0),))
        self.assertEqual(desk.lost, (("datum", 1), ("datum", 3), ("datum", 5)))
        self.assertEqual(desk.mend(), ())
        self.assertEqual((desk.cells, desk.changes), ((3, 1, 1, None, 5, 3, 7, None, 5, None), 3))

    def test_other_kinds(self):
        three = (("datum", 1), ("datum", 3), ("datum", 5))
        for kind in KINDS:
            desk = Desk(places(kind, 5), (0, 1, 2, 0, 1, 2))
            desk.lose(three[::-1])
            comes_back = kind == "plain" or kind != "bits" and kind % 2 == 1
            self.assertEqual(desk.hope(), three if comes_back else ())
            self.assertEqual(desk.mend(), three if comes_back else ())
            self.assertEqual(desk.lost, () if comes_back else three)

    def test_greatest_values(self):
        table = widest("plain")
        desk = Desk(table, (10 ** 30,) * 24)
        desk.lose_column("cg")
        self.assertEqual(desk.mend(), table.cells_of("cg"))
        self.assertEqual(desk.cells, table.full((10 ** 30,) * 24))


class Give(Case):
    def test_the_value_that_it_had(self):
        desk = Desk(side(), (5, -2))
        desk.lose((SECOND, FIRST, P))
        self.assertEqual(desk.hope(), (P,))
        self.assertIsNone(desk.give(FIRST, 5))
        self.assertEqual(seen(desk), ((P, SECOND), (None, 5, 3, None), 2, (P, SECOND)))
        self.assertIsNone(desk.give(value=3, cell=P))
        self.assertEqual(seen(desk), ((SECOND,), (3, 5, 3, None), 3, (SECOND,)))
        desk.undo()
        self.assertEqual(seen(desk), ((P, SECOND), (None, 5, 3, None), 2, (P, SECOND)))

    def test_the_value_from_before_a_change(self):
        desk = Desk(side(), (5, -2))
        desk.put(0, 6)
        desk.lose((P, FIRST, Q))
        for cell, had in [(P, 4), (FIRST, 6), (Q, 4)]:
            for value in [3, 5, 0, had + 1, -had]:
                self.assert_told(NotBack, value, desk.give, cell, value)
            desk.give(cell, had)
        self.assertEqual(seen(desk), ((), (4, 6, 4, -2), 5, ()))

    def test_not_back(self):
        for kind, values in [("plain", (1, 0)), ("bits", (1, 0)), (3, (1, 0))]:
            desk = Desk(side(kind), values)
            desk.lose((P, FIRST, Q, SECOND))
            before = seen(desk)
            for cell, had in [(P, 1), (FIRST, 1), (Q, 1), (SECOND, 0)]:
                for value in [*not_integers(), *not_strings()[4:], had + 1, had - 1, str(had), (had,), [had], had == 1,
                              10 ** 79]:
                    if type(value) is int and value == had:
                        continue
                    self.assert_told(NotBack, value, desk.give, cell, value)
                    self.assert_told(NotBack, value, desk.give, value=value, cell=cell)
            self.assertEqual(seen(desk), before)

    def test_other_integers_on_a_dial_and_beyond(self):
        desk = Desk(side(12), (9, 9))
        desk.lose((P, FIRST))
        for value in [18, -6, 7]:
            self.assert_told(NotBack, value, desk.give, P, value)
        desk.give(P, 6)
        desk = Desk(places("plain", 5), (10 ** 30,) * 6)
        desk.lose((("sum", "a"),))
        desk.give(("sum", "a"), 3 * 10 ** 30)
        self.assertEqual(desk.lost, ())

    def test_cells(self):
        desk = Desk(side(), (5, -2))
        desk.lose((SECOND,))
        before = seen(desk)
        for value in [-2, 5, None]:
            for cell in not_cells():
                self.assert_told(UnknownName, cell, desk.give, cell, value)
                self.assert_told(UnknownName, cell, desk.give, value=value, cell=cell)
            for cell in [P, FIRST, Q]:
                self.assert_told(NotLost, cell, desk.give, cell, value)
                self.assert_told(NotLost, cell, desk.give, value=value, cell=cell)
        self.assert_told(UnknownName, ("datum", True), desk.give, ("datum", True), -2)
        self.assertEqual(seen(desk), before)


class Undo(Case):
    def test_each_change(self):
        desk = Desk(side(), (5, -2))
        states = [seen(desk)]
        for call, passed in [(desk.put, (0, 7)), (desk.put, (0, 7)), (desk.lose, ((),)), (desk.lose, ((Q, P),)),
                             (desk.lose_column, ("left",)), (desk.lose_column, ("left",)), (desk.give, (FIRST, 7)),
                             (desk.mend, ()), (desk.mend, ()), (desk.put, (1, 0))]:
            call(*passed)
            states.append(seen(desk))
        self.assertEqual([changes for _, _, changes, _ in states], list(range(11)))
        for state in states[-2::-1]:
            self.assertIsNone(desk.undo())
            self.assertEqual(seen(desk), state)
        for _ in range(2):
            with self.assertRaises(NothingToUndo) as held:
                desk.undo()
            self.assertEqual(vars(held.exception), {})
            self.assertEqual(seen(desk), states[0])

    def test_other_changes_behind_it(self):
        desk = Desk(side(), (5, -2))
        desk.put(0, 1)
        desk.put(0, 2)
        desk.undo()
        desk.put(1, 3)
        self.assertEqual((desk.cells, desk.changes), ((4, 1, 4, 3), 2))
        desk.undo()
        desk.undo()
        self.assertEqual((desk.cells, desk.changes), ((3, 5, 3, -2), 0))

    def test_what_raised_no_change(self):
        desk = Desk(side(), (5, -2))
        desk.put(0, 1)
        for call, passed in [(desk.put, (0, None)), (desk.lose, ((P, P),)), (desk.lose_column, ("p",)),
                             (desk.give, (P, -1)), (desk.give, (None, 0))]:
            with self.assertRaises((InvalidValues, InvalidLost, UnknownName, NotLost)):
                call(*passed)
        self.assertEqual(desk.changes, 1)
        desk.undo()
        self.assertEqual(seen(desk), ((), (3, 5, 3, -2), 0, ()))


class Beside(Case):
    def test_two_desks_of_one_table(self):
        table, values = side(), (5, -2)
        one, other = Desk(table, values), Desk(table, values)
        one.put(0, 1)
        other.lose((P,))
        one.lose((FIRST,))
        self.assertEqual(seen(one), ((FIRST,), (-1, None, -1, -2), 2, (FIRST,)))
        self.assertEqual(seen(other), ((P,), (None, 5, 3, -2), 1, (P,)))
        other.undo()
        self.assertEqual(seen(one), ((FIRST,), (-1, None, -1, -2), 2, (FIRST,)))
        self.assertEqual((str(table), values), (str(side()), (5, -2)))
        with self.assertRaises(NothingToUndo):
            other.undo()

    def test_an_object_that_equals_everything(self):
        desk = Desk(side(), (0, 0))
        desk.lose((FIRST,))
        for value in [Anything(), False]:
            self.assert_told(NotBack, value, desk.give, FIRST, value)
        thing = Anything()
        self.assert_told(InvalidNumber, thing, desk.put, thing, 0)
        self.assert_told(UnknownName, thing, desk.lose_column, thing)

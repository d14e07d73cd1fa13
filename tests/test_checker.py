"""The checker: points [2], *Checker*, [11], [12], [16] and the interface, "pairsums/checker.py"."""

import inspect
import itertools
import random

from pairsums.checker import accepts
from pairsums.columns import columns_back
from pairsums.losing import change, recipe
from pairsums.tables import Table
from pairsums.wrong import righted, suspects
from tests.kit import (FORMS, KINDS, Anything, Case, formed, not_cells, not_integers, not_names, not_strings,
                       not_tables, not_tuples, places, side, some_losses, tables, widest)
from tests.search import put
from tests.test_losing_restored import other_values
from tests.test_tables_values import filled, some_values

P, Q, FIRST, SECOND = ("sum", "p"), ("sum", "q"), ("datum", 0), ("datum", 1)
FIVE, FLAT = places("bits", 5), places("plain", 5)
THREE = (("datum", 1), ("datum", 3), ("datum", 5))


def some_tables():
    return tables() + [formed(form, kind) for form in FORMS for kind in ("bits", "plain", 3, 4)] + [
        places(kind, 5) for kind in KINDS]


def units(table):
    """Data values with 1 for one of the data: what holds for these and for the zeros holds for all."""
    many = len(table.data)
    return [tuple(int(number == at) for number in range(many)) for at in range(many)] + [(0,) * many]


def taken(kind, factor, value):
    """A value taken factor times."""
    if kind == "bits":
        return value if factor % 2 else 0
    return factor * value if kind == "plain" else factor * value % kind


def gives(table, cell, paper):
    """Whether a pair (divisor, factors), of the right form, gives the value of the cell for all data."""
    divisor, factors = paper
    for values in units(table):
        cells = dict(zip(table.cells, filled(table, values)))
        total = 0
        for other, factor in factors:
            total = put(table.kind, total, taken(table.kind, factor, cells[other]))
        if total != divisor * cells[cell]:
            return False
    return True


def hides(table, lost, cell, paper):
    """Whether a tuple of numbers, of the right form, changes the cell and none that is left."""
    for values in [(0,) * len(table.data), *itertools.islice(some_values(table), 2)]:
        moved = tuple(put(table.kind, value, number) for value, number in zip(values, paper))
        pairs = list(zip(table.cells, filled(table, values), filled(table, moved)))
        if any((old != new) and other not in lost or other == cell and old == new for other, old, new in pairs):
            return False
    return True


class Cells(Case):
    def assert_verdict(self, verdict, claim, paper):
        self.assertIs(accepts(claim, paper), verdict, (claim, paper))

    def all_claims(self):
        """Tables, lost cells and one of these, with a recipe or a change for it."""
        for table in some_tables():
            for lost in some_losses(table, 3, 5):
                for cell in lost[:2 if len(table.data) > 10 else 4]:
                    yield table, lost, cell, recipe(table, lost, cell), change(table, lost, cell)

    def test_all_kinds(self):
        for table, lost, cell, told, hidden in self.all_claims():
            self.assert_verdict(told is not None, ("back", str(table), lost, cell), told)
            self.assert_verdict(hidden is not None, ("gone", str(table), lost, cell), hidden)
            self.assert_verdict(False, ("gone", str(table), lost, cell), told)
            self.assert_verdict(False, ("back", str(table), lost, cell), hidden)

    def test_recipes_nearly_so(self):
        chance = random.Random(2)
        seen = {True: 0, False: 0}
        for table, lost, cell, told, _ in self.all_claims():
            if told is None:
                continue
            claim = ("back", str(table), lost, cell)
            for paper in self.like_recipe(table, lost, told, chance):
                verdict = gives(table, cell, paper)
                seen[verdict] += 1
                self.assert_verdict(verdict, claim, paper)
        self.assertTrue(min(seen.values()) > 20, seen)

    def like_recipe(self, table, lost, told, chance):
        """Pairs of the form of a recipe, each in one thing otherwise than this one."""
        divisor, factors = told
        most = {"bits": 1, "plain": 10 ** 40}.get(table.kind) or table.kind - 1
        least = -10 ** 40 if table.kind == "plain" else 1
        left = [cell for cell in table.cells if cell not in lost]
        for at, (cell, factor) in enumerate(factors):
            yield divisor, factors[:at] + factors[at + 1:]
            for other in [factor + 1, factor - 1, -factor, 2 * factor, most, least]:
                if other and least <= other <= most:
                    yield divisor, factors[:at] + ((cell, other),) + factors[at + 1:]
        for cell in left:
            if cell not in dict(factors):
                more = dict(factors + ((cell, 1),))
                yield divisor, tuple((other, more[other]) for other in left if other in more)
        if table.kind == "plain":
            yield 3 - divisor, factors
            yield 3 - divisor, tuple((cell, factor * 2) for cell, factor in factors)
            if divisor == 1:
                # A sum is its data: put to the recipe, they change nothing.
                for name in table.sums:
                    zero = {("sum", name): 5, **{("datum", number): -5 for number, pair in enumerate(table.data)
                                                 if name in pair}}
                    both = {other: zero.get(other, 0) + dict(factors).get(other, 0) for other in table.cells}
                    if not set(zero) & set(lost):
                        yield divisor, tuple((other, both[other]) for other in table.cells if both[other])

    def test_recipes_that_have_not_the_form(self):
        for table, lost, cell, told, _ in self.all_claims():
            if told is None:
                continue
            claim, (divisor, factors) = ("back", str(table), lost, cell), told
            self.assert_verdict(True, claim, told)
            wrong = [[divisor, factors], (divisor, list(factors)), (divisor,), (factors,), (divisor, factors, ()),
                     (factors, divisor), (0, factors), (-divisor, factors), (3, factors), (True, factors),
                     (str(divisor), factors), (None, factors), (Anything(), factors), (divisor, None),
                     (divisor, dict(factors)), (divisor, {}), (divisor, ""), (divisor, (factors,)),
                     (divisor, factors + (None,)), (divisor, factors + ((),)), (divisor, factors + ((lost[0], 1),)),
                     (divisor, ((lost[-1], 1), *factors)), ((divisor,), factors), (divisor, factors + (("sum", 1),)),
                     factors, divisor]
            if factors:
                wrong += self.like_factors(table, divisor, factors)
            if table.kind != "plain":
                wrong.append((2, factors))
            for paper in wrong:
                self.assert_verdict(False, claim, paper)

    def like_factors(self, table, divisor, factors):
        """Pairs that have not the form of a recipe, for a first factor that is otherwise."""
        (cell, factor), rest = factors[0], factors[1:]
        found = [(divisor, (first, *rest)) for first in [
            (cell, 0), (cell, str(factor)), (cell, None), (cell, True), (cell, False), (cell, Anything()),
            (cell, (factor,)), [cell, factor], (cell,), (cell, factor, factor), (factor, cell), (list(cell), factor),
            (None, factor),
            (Anything(), factor), cell]]
        found += [(divisor, (pair, *factors)) for pair in [(cell, factor), (cell, 0), (cell, -factor), (cell, 1)]]
        found += [(divisor, ((("datum", 99), factor), *rest)), (divisor, ((("sum", "zz"), factor), *rest)),
                  (divisor, ((("datum", True), factor), *rest)), (divisor, ((("datum", False), factor), *rest))]
        if table.kind != "plain":
            around = 2 if table.kind == "bits" else table.kind
            found += [(divisor, ((cell, factor + step), *rest)) for step in (around, -around, 10 * around)]
        if len(factors) > 1:
            found += [(divisor, factors[::-1]), (divisor, (*rest, factors[0])), (divisor, (factors[1], *factors))]
        return found

    def test_a_cell_twice_whose_factors_give_the_right_one(self):
        claim = ("back", str(side()), (FIRST,), FIRST)
        self.assert_verdict(True, claim, (1, ((P, 1), (SECOND, -1))))
        self.assert_verdict(True, claim, (2, ((P, 1), (Q, 1), (SECOND, -2))))
        self.assert_verdict(True, claim, (1, ((P, 2), (Q, -1), (SECOND, -1))))
        for factors in [((P, 2), (P, -1), (SECOND, -1)), ((P, 1), (SECOND, -2), (SECOND, 1)), ((SECOND, -1), (P, 1)),
                        ((P, 1), (FIRST, 0), (SECOND, -1)), ((P, 1), (Q, 0), (SECOND, -1)),
                        ((Q, 1), (P, 0), (SECOND, -1))]:
            self.assert_verdict(False, claim, (1, factors))
        # The lost cell tells itself, but is not left.
        self.assert_verdict(False, claim, (1, ((FIRST, 1),)))
        self.assert_verdict(False, ("back", str(side()), (FIRST, SECOND), FIRST), (1, ((P, 1), (SECOND, -1))))

    def test_divisors(self):
        claim = ("back", str(FLAT), THREE, THREE[0])
        told = recipe(FLAT, THREE, THREE[0])
        self.assertEqual(told[0], 2)
        self.assert_verdict(True, claim, told)
        self.assert_verdict(False, claim, (1, told[1]))
        self.assert_verdict(False, claim, (4, tuple((cell, factor * 2) for cell, factor in told[1])))
        self.assert_verdict(False, claim, (-2, tuple((cell, -factor) for cell, factor in told[1])))
        for kind in ["bits", 3, 4, 12, 999999999]:
            claim = ("back", str(side(kind)), (P,), P)
            self.assert_verdict(True, claim, (1, ((FIRST, 1), (SECOND, 1))))
            self.assert_verdict(True, claim, (1, ((Q, 1),)))
            self.assert_verdict(False, claim, (2, ((FIRST, 2 % (kind if kind != "bits" else 2)), (SECOND, 2))))
            self.assert_verdict(False, claim, (2, ((FIRST, 1), (SECOND, 1))))

    def test_a_sum_without_data(self):
        for kind in KINDS:
            table = Table(kind, (("a", ("p", "q", "r"), (("p", "q"),)),))
            claim = ("back", str(table), (("sum", "r"), FIRST), ("sum", "r"))
            self.assert_verdict(True, claim, (1, ()))
            self.assert_verdict(kind == "plain", claim, (2, ()))
            self.assert_verdict(False, claim, (1, ((P, 1),)))
            self.assert_verdict(False, claim, (0, ()))
            self.assert_verdict(False, ("back", str(table), (P, FIRST), P), (1, ()))

    def test_changes_nearly_so(self):
        seen = {True: 0, False: 0}
        for table, lost, cell, _, hidden in self.all_claims():
            if hidden is None:
                continue
            claim = ("gone", str(table), lost, cell)
            most = {"bits": 1, "plain": 2}.get(table.kind) or table.kind - 1
            least = -2 if table.kind == "plain" else 0
            for at, number in enumerate(hidden):
                for other in {number - 2, number - 1, number + 1, number + 2, 0, 1, -number, least, most}:
                    if least <= other <= most:
                        paper = hidden[:at] + (other,) + hidden[at + 1:]
                        verdict = hides(table, lost, cell, paper)
                        seen[verdict] += 1
                        self.assert_verdict(verdict, claim, paper)
        self.assertTrue(min(seen.values()) > 20, seen)

    def test_changes_that_have_not_the_form(self):
        for table, lost, cell, _, hidden in self.all_claims():
            if hidden is None:
                continue
            claim = ("gone", str(table), lost, cell)
            self.assert_verdict(True, claim, hidden)
            around = {"bits": 2, "plain": 5}.get(table.kind) or table.kind
            wrong = [list(hidden), hidden[:-1], hidden + (0,), (hidden,), (), (0,) * len(hidden), (1, hidden),
                     dict(enumerate(hidden)), tuple(map(str, hidden)), tuple(number or None for number in hidden)]
            for at, number in enumerate(hidden):
                for other in [number + around, number - around, number == 1, Anything(), None, str(number), (number,)]:
                    wrong.append(hidden[:at] + (other,) + hidden[at + 1:])
            for paper in wrong:
                is_it = type(paper) is tuple and [type(number) for number in paper] == [int for _ in hidden]
                self.assert_verdict(is_it and paper == hidden, claim, paper)

    def test_changes_beyond_their_bounds(self):
        columns = (("a", ("p", "q"), (("p", "q"),)), ("b", (), (("p", "q"),)))
        table = Table("plain", columns)
        claim = ("gone", str(table), (FIRST, SECOND), FIRST)
        for number in range(-4, 5):
            self.assert_verdict(number != 0 and abs(number) <= 2, claim, (number, -number))
        claim = ("gone", str(Table(6, columns)), (FIRST, SECOND), FIRST)
        for one, other in itertools.product(range(-6, 13), repeat=2):
            fits = 0 < one < 6 and 0 <= other < 6 and (one + other) % 6 == 0
            self.assert_verdict(fits, claim, (one, other))
        claim = ("gone", str(Table("bits", columns)), (FIRST, SECOND), SECOND)
        for one, other in itertools.product(range(-2, 4), repeat=2):
            self.assert_verdict((one, other) == (1, 1), claim, (one, other))

    def test_the_lost_one_stays(self):
        table = formed("two parts", "bits")
        lost = tuple(("datum", number) for number in range(5))
        self.assert_verdict(True, ("gone", str(table), lost, lost[0]), (1, 1, 1, 0, 0))
        self.assert_verdict(False, ("gone", str(table), lost, lost[3]), (1, 1, 1, 0, 0))
        self.assert_verdict(False, ("gone", str(table), lost, lost[0]), (1, 1, 0, 0, 0))
        # A lost sum that does not change, between two data that do.
        table = Table("plain", (("a", ("p", "q"), (("p", "q"), ("p", "q"))),))
        lost = (P, FIRST, SECOND)
        self.assert_verdict(False, ("gone", str(table), lost, P), (1, -1))
        self.assert_verdict(True, ("gone", str(table), lost, FIRST), (1, -1))
        self.assert_verdict(False, ("gone", str(table), lost, FIRST), (1, 0))
        self.assert_verdict(True, ("gone", str(table), (*lost, Q), P), (1, 0))

    def test_claims_that_have_not_the_form(self):
        table, lost, cell = FIVE, THREE, THREE[1]
        text, hidden, told = str(FIVE), (0, 1, 0, 1, 0, 1), recipe(FIVE, (("sum", "a"),), ("sum", "a"))
        self.assert_verdict(True, ("gone", text, lost, cell), hidden)
        self.assert_verdict(True, ("back", text, (("sum", "a"),), ("sum", "a")), told)
        claims = [["gone", text, lost, cell], ("gone", text, list(lost), cell), ("gone", text, lost, list(cell)),
                  ("gone", text, lost), ("gone", text, lost, cell, cell), ("gone", table, lost, cell), (),
                  ("Gone", text, lost, cell), ("", text, lost, cell), (b"gone", text, lost, cell), ("gone",), "gone",
                  (None, text, lost, cell), (Anything(), text, lost, cell), (["gone"], text, lost, cell),
                  ("gone", lost, text, cell), (("gone", text, lost, cell),), ("weak", text, lost, cell),
                  ("gone", text, (*lost, lost[0]), cell), ("gone", text, lost[:1] * 2, lost[0]),
                  ("gone", text, lost, ("datum", 0)), ("gone", text, (), cell), ("gone", text, lost, lost),
                  ("gone", text, cell, cell), ("gone", text, lost, ("sum", "a"))]
        claims += [("gone", text, (*lost, other), cell) for other in not_cells() if other != ("datum", 2)]
        claims += [("gone", text, lost, other) for other in not_cells() + [("datum", True)]]
        claims += [("gone", text, other, cell) for other in not_tuples()]
        claims += [("gone", other, lost, cell) for other in [*not_strings(), *not_tables(), "", text + "\n", " " + text,
                                                             text[:-1], text.replace("bits", "bit"), "kind bits"]]
        for claim in claims:
            if claim != ("gone", text, lost, cell):
                self.assert_verdict(False, claim, hidden)
        for paper in not_tuples() + not_integers() + [(), (0,) * 6, (hidden,), told, hidden * 2]:
            self.assert_verdict(False, ("gone", text, lost, cell), paper)
            if paper != told:
                self.assert_verdict(False, ("back", text, (("sum", "a"),), ("sum", "a")), paper)

    def test_a_cell_that_is_left(self):
        for kind in KINDS:
            text = str(side(kind))
            minus = {"bits": 1, "plain": -1}.get(kind) or kind - 1
            for lost in [(), (P,), (P, SECOND), (SECOND,)]:
                for cell, factors in [(FIRST, ((FIRST, 1),)), (Q, ((Q, 1),)), (FIRST, ((Q, 1), (SECOND, minus))),
                                      (FIRST, ((P, 1), (SECOND, minus)))]:
                    self.assert_verdict(False, ("back", text, lost, cell), (1, factors))
                    self.assert_verdict(False, ("gone", text, lost, cell), (1, 0))
            self.assert_verdict(True, ("back", text, (FIRST,), FIRST), (1, ((P, 1), (SECOND, minus))))

    def test_signature(self):
        self.assertEqual(list(inspect.signature(accepts).parameters), ["claim", "certificate"])
        claim = ("gone", str(FIVE), THREE, THREE[0])
        self.assertIs(accepts(certificate=(0, 1, 0, 1, 0, 1), claim=claim), True)


class Columns(Case):
    def test_like_all_sets(self):
        for table in some_tables():
            for number in range(len(table.names) + 2):
                choices = list(itertools.combinations(table.names, min(number, len(table.names))))
                gone = [names for names in choices if not columns_back(table, names)]
                self.assertIs(accepts(("strong", str(table), number), ()), not gone)
                for names in choices[:10]:
                    for paper in [names, names[::-1]]:
                        self.assertIs(accepts(("weak", str(table), number), paper), names in gone)
                        self.assertIs(accepts(("strong", str(table), number), paper), not gone and not paper)

    def test_numbers(self):
        text = str(side())
        self.assertTrue(accepts(("strong", text, 1), ()) and accepts(("weak", text, 2), ("left", "far")))
        for number in [*not_integers(), -1, -10 ** 79]:
            self.assertIs(accepts(("strong", text, number), ()), False)
            self.assertIs(accepts(("weak", text, number), ("left", "far")), False)
            self.assertIs(accepts(("weak", text, number), ("left",)), False)
            self.assertIs(accepts(("weak", text, number), ()), False)
        for number in [3, 4, 99, 10 ** 79]:
            self.assertIs(accepts(("weak", text, number), ("left", "far", "right")), True)
            self.assertIs(accepts(("weak", text, number), ("left", "far")), False)
            self.assertIs(accepts(("strong", text, number), ()), False)
            alone = str(Table("plain", (("a", ("p",), ()),)))
            self.assertIs(accepts(("strong", alone, number), ()), True)
            self.assertIs(accepts(("weak", alone, number), ("a",)), False)
        self.assertIs(accepts(("strong", text, 0), ()), True)
        self.assertIs(accepts(("weak", text, 0), ()), False)

    def test_names(self):
        text = str(side())
        for paper in [("left", "left"), ("left", "far", "right"), ("left",), (), ("left", "p"), ("left", "datum"),
                      ["left", "far"], {"left", "far"}, {"left": 1, "far": 1}, "leftfar", (("left", "far"),),
                      ("left", ["far"]), ("left", Anything()), ("left", None), ("left", "far", "far"),
                      ("right", "far")]:
            self.assertIs(accepts(("weak", text, 2), paper), False)
        for name in not_names():
            self.assertIs(accepts(("weak", text, 2), ("left", name)), False)
        self.assertIs(accepts(("weak", text, 2), ("right", "left")), True)

    def test_strong_has_the_empty_tuple_alone(self):
        for paper in [*not_tuples(), *not_integers()[:4], ("left",), ((),), (None,), (1,), ("left", "right")]:
            self.assertIs(accepts(("strong", str(side()), 1), paper), False)

    def test_claims_that_have_not_the_form(self):
        text = str(side())
        for claim in [["strong", text, 1], ("strong", text), ("strong", text, 1, 1), ("strong", side(), 1), ("strong",),
                      ("strong", 1, text), ("strong", text, (1,)), ("Strong", text, 1), ("strong", text + "\n", 1),
                      ("strong", "", 1), ("strong", None, 1), (Anything(), text, 1), ("strong", Anything(), 1),
                      ("strong", text, Anything())]:
            self.assertIs(accepts(claim, ()), False)

    def test_widest(self):
        for kind in ("bits", "plain", 3):
            text = str(widest(kind))
            self.assertIs(accepts(("strong", text, 1), ()), False)
            self.assertIs(accepts(("weak", text, 8), widest(kind).names), True)

    def test_many_columns(self):
        # Rounds of eight places, two columns of which come back; with one datum more, in any two sums, one alone does.
        for kind in ("bits", "plain", 5, 6):
            table = places(kind, 7)
            self.assertIs(accepts(("strong", str(table), 2), ()), True)
            self.assertIs(accepts(("strong", str(table), 3), ()), False)
            more = Table(kind, (*table.columns, ("more", (), (("a", "b"),))))
            self.assertIs(accepts(("strong", str(more), 2), ()), False)
            self.assertIs(accepts(("strong", str(more), 1), ()), True)


class Wrong(Case):
    def assert_verdict(self, table, cells, name, paper):
        """That the verdict is right for a certificate of the right form."""
        values = dict(zip(table.cells, cells))
        values.update(zip(table.cells_of(name), paper))
        made = tuple(values[cell] for cell in table.cells)
        data = [value for (what, _), value in zip(table.cells, made) if what == "datum"]
        verdict = made == filled(table, data)
        self.assertIs(accepts(("wrong", str(table), cells, name), paper), verdict)
        return verdict

    def papers(self, table, cells, name):
        """Right certificates, and such as are nearly so."""
        column = table.cells_of(name)
        if name in suspects(table, cells):
            made = righted(table, cells, name)
            right = tuple(value for cell, value in zip(table.cells, made) if cell in column)
            yield right
            for at, value in enumerate(right):
                for other in [value + 1, value - 1, -value, 0]:
                    if table.kind == "plain" or 0 <= other and (table.kind == "bits" or other < table.kind):
                        yield right[:at] + (other,) + right[at + 1:]
        yield (0,) * len(column)

    def test_like_what_is_right(self):
        chance = random.Random(4)
        seen = {True: 0, False: 0}
        for table in some_tables():
            for values in itertools.islice(some_values(table), 3):
                right = table.full(values)
                for name in table.names:
                    cells = tuple(other if cell in table.cells_of(name) else value for cell, value, other
                                  in zip(table.cells, right, other_values(table, chance)))
                    for paper in self.papers(table, cells, name):
                        seen[self.assert_verdict(table, cells, name, paper)] += 1
                    other = chance.choice(table.names)
                    for paper in self.papers(table, cells, other):
                        self.assert_verdict(table, cells, other, paper)
        self.assertTrue(min(seen.values()) > 100, seen)

    def test_beyond_the_bounds(self):
        most = 10 ** 32
        self.assertIs(accepts(("wrong", str(side()), (most, 0, most, 0), "far"), (most,)), True)
        self.assertIs(accepts(("wrong", str(side()), (0, 0, most, 0), "left"), (most, most)), True)
        self.assertIs(accepts(("wrong", str(side()), (0, 0, most, 10 ** 30), "left"), (most, most)), False)
        table = Table("plain", (("a", ("p", "q"), (("p", "q"),)),))
        self.assertIs(accepts(("wrong", str(table), (0, 0, 0), "a"), (10 ** 75,) * 3), True)
        self.assertIs(accepts(("wrong", str(table), (0, 0, 0), "a"), (-10 ** 75,) * 3), True)
        table = Table("bits", (("a", ("p", "q"), (("p", "q"),)),))
        self.assertIs(accepts(("wrong", str(table), (0, 0, 0), "a"), (2 ** 60,) * 3), True)
        self.assertIs(accepts(("wrong", str(table), (0, 0, 0), "a"), (2 ** 60 - 1,) * 3), True)
        self.assertIs(accepts(("wrong", str(table), (0, 0, 0), "a"), (-1,) * 3), False)
        table = Table(5, (("a", ("p", "q"), (("p", "q"),)),))
        for number in range(-6, 11):
            self.assertIs(accepts(("wrong", str(table), (0, 0, 0), "a"), (number,) * 3), 0 <= number < 5)
        # Around the dial the sums would fit.
        for number in (-10, -5, 0, 5, 10, 5 * 10 ** 40):
            self.assertIs(accepts(("wrong", str(table), (0, 0, 0), "a"), (0, 0, number)), number == 0)
            self.assertIs(accepts(("wrong", str(table), (0, 0, 0), "a"), (4, 4, number + 4)), number == 0)

    def test_columns_without_cells(self):
        table = Table("bits", (("a", (), ()), ("b", ("p",), ())))
        self.assertIs(accepts(("wrong", str(table), (0,), "a"), ()), True)
        self.assertIs(accepts(("wrong", str(table), (1,), "a"), ()), False)
        self.assertIs(accepts(("wrong", str(table), (1,), "b"), (0,)), True)
        self.assertIs(accepts(("wrong", str(table), (1,), "b"), (1,)), False)

    def test_what_has_not_the_form(self):
        text, cells = str(side()), (3, 5, 4, -2)
        claim = ("wrong", text, cells, "left")
        self.assertIs(accepts(claim, (4, 6)), True)
        for paper in [*not_tuples(), *not_integers(), (), (4,), (4, 6, 0), (6, 4), [4, 6], (4, "6"), (4, None),
                      (True, 6), (4, Anything()), ((4, 6),), (4, (6,)), {4: 6}, (Anything(), Anything()), ("4", "6")]:
            self.assertIs(accepts(claim, paper), False)
        for other in [*not_tuples(), (), cells[:3], (*cells, 0), list(cells), (3, 5, 4, None), (3, 5, 4, True),
                      (10 ** 32 + 1, 5, 4, -2), (3, 10 ** 30 + 1, 4, -2), (3, 5, 4, Anything()), (cells,)]:
            self.assertIs(accepts(("wrong", text, other, "left"), (4, 6)), False)
        for name in [*not_names(), "p", "lef", ("left",), ["left"], "far", "right"]:
            self.assertIs(accepts(("wrong", text, cells, name), (4, 6)), False)
        for other in [("wrong", text, cells), ("wrong", text, cells, "left", "left"), ["wrong", text, cells, "left"],
                      ("Wrong", text, cells, "left"), ("wrong", side(), cells, "left"), ("wrong", text, "left", cells),
                      ("wrong", None, cells, "left"), ("back", text, cells, "left"), ("gone", text, cells, "left")]:
            self.assertIs(accepts(other, (4, 6)), False)

    def test_true_in_the_place_of_one(self):
        table = Table("bits", (("a", ("p", "q"), (("p", "q"),)),))
        claim = ("wrong", str(table), (0, 0, 0), "a")
        self.assertIs(accepts(claim, (1, 1, 1)), True)
        self.assertIs(accepts(claim, (0, 0, 0)), True)
        for paper in [(True, 1, 1), (1, True, 1), (1, 1, True), (True,) * 3, (False, 0, 0), (0, False, False)]:
            self.assertIs(accepts(claim, paper), False)
        self.assertIs(accepts(("wrong", str(table), (False, 0, 0), "a"), (1, 1, 1)), False)
        self.assertIs(accepts(("wrong", str(table), (0, 0, True), "a"), (1, 1, 1)), False)


class AnyValues(Case):
    def values(self):
        """Values of any kind, nested ones too."""
        deep, wide = (), []
        for _ in range(19):
            deep, wide = (deep,), [wide]
        return [*not_tuples(), *not_integers(), *not_cells(), *not_tables(), side(), FIVE, deep, wide, 10 ** 79, -1, 0,
                1, (), ((),), ((), ()), ("back",), ("strong", str(side()), 1), (1, ()), (2, ((P, 1),)), (0, 0),
                range(3),
                {1: {2: {3: ()}}}, ({}, [], set()), ("left",), object(), Exception, accepts, lambda: None, iter([]),
                frozenset()]

    def test_nothing_is_raised(self):
        text = str(side())
        claims = [("back", text, (P,), P), ("gone", text, (FIRST, SECOND), FIRST), ("strong", text, 1),
                  ("weak", text, 2), ("wrong", text, (3, 5, 4, -2), "far")]
        for value in self.values():
            self.assertIs(accepts(value, ()), value == ("strong", str(side()), 1) and type(value) is tuple)
            self.assertIs(accepts(value, value), False)
            for claim in claims:
                self.assertIn(accepts(claim, value), (True, False))
                for at in range(len(claim)):
                    other = claim[:at] + (value,) + claim[at + 1:]
                    self.assertIs(type(accepts(other, ())), bool)
                    self.assertIs(type(accepts(other, value)), bool)
                    self.assertIs(type(accepts(other, (value,))), bool)
                    self.assertIs(type(accepts(other, (1, value))), bool)
                    self.assertIs(type(accepts(other, (1, (value,)))), bool)
                    self.assertIs(type(accepts(other, (1, ((value, value),)))), bool)

    def test_pairs_of_any_values(self):
        for claim, paper in itertools.product(self.values(), repeat=2):
            fits = claim == ("strong", str(side()), 1) and type(claim) is tuple and type(paper) is tuple and not paper
            self.assertIs(accepts(claim, paper), fits)

    def test_nothing_is_changed(self):
        factors = [[P, 1], [SECOND, -1]]
        self.assertIs(accepts(["back", str(side()), [FIRST], FIRST], [1, factors]), False)
        self.assertEqual(factors, [[P, 1], [SECOND, -1]])

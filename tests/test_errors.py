"""The classes of errors: point [4] and the interface, "pairsums/errors.py"."""

import inspect
import unittest

from pairsums import errors
from tests.kit import Anything

GIVEN = "given"
INDEX = "index"
BASES = {
    "WrongValue": (ValueError, {
        "InvalidText": GIVEN, "InvalidName": GIVEN, "InvalidKind": GIVEN, "InvalidWish": GIVEN, "InvalidIndex": GIVEN,
        "InvalidNumber": GIVEN, "InvalidLine": GIVEN, "NotATable": GIVEN, "InvalidColumns": INDEX,
        "InvalidValues": INDEX, "InvalidCells": INDEX, "InvalidLost": INDEX, "InvalidNames": INDEX,
        "InvalidRounds": INDEX, "InvalidDeeds": INDEX,
    }),
    "WrongName": (LookupError, {"UnknownName": GIVEN, "NotLost": GIVEN}),
    "NoAnswer": (ArithmeticError, {
        "NotRight": None, "NotBack": GIVEN, "NotReady": GIVEN, "Broken": INDEX, "InUse": INDEX, "NothingToUndo": None,
    }),
}


def attributes():
    return [0, -1, 10 ** 79, True, False, None, "", "text\n", b"x", (), (1, ("a", [2])), [], [1, [2]], {}, {"a": 1},
            {1}, Anything(), object(), int, ValueError("x"), errors.NotRight(), len]


def all_classes():
    return [(base, name, attribute) for base, (_, below) in BASES.items() for name, attribute in below.items()]


class Errors(unittest.TestCase):
    def test_no_others_and_none_missing(self):
        found = {name for name, value in vars(errors).items() if inspect.isclass(value)}
        self.assertEqual(found, set(BASES) | {name for _, name, _ in all_classes()})
        for name in found:
            self.assertEqual(getattr(errors, name).__module__, "pairsums.errors")
            self.assertEqual(getattr(errors, name).__name__, name)

    def test_bases_of_python(self):
        for name, (python, _) in BASES.items():
            self.assertEqual(getattr(errors, name).__bases__, (python,), name)

    def test_each_stands_under_one_base_alone(self):
        own = [getattr(errors, base) for base in BASES] + [getattr(errors, name) for _, name, _ in all_classes()]
        for base, name, _ in all_classes():
            error = getattr(errors, name)
            self.assertEqual(error.__bases__, (getattr(errors, base),), name)
            above = [other for other in own if other is not error and issubclass(error, other)]
            self.assertEqual(above, [getattr(errors, base)], name)

    def test_attributes_by_position_and_by_name(self):
        for _, name, attribute in all_classes():
            for value in attributes() if attribute else []:
                with self.subTest(name=name, value=value):
                    error = getattr(errors, name)
                    self.assertIs(getattr(error(value), attribute), value)
                    self.assertIs(getattr(error(**{attribute: value}), attribute), value)

    def test_attributes_are_needed_and_no_others_taken(self):
        for _, name, attribute in all_classes():
            error = getattr(errors, name)
            with self.subTest(name):
                if attribute:
                    other = INDEX if attribute == GIVEN else GIVEN
                    self.assertRaises(TypeError, error)
                    self.assertRaises(TypeError, error, 1, 2)
                    self.assertRaises(TypeError, error, **{other: 1})
                    self.assertFalse(hasattr(error(1), other))

    def test_those_without_attributes_take_none(self):
        for name in ["NotRight", "NothingToUndo", "WrongValue", "WrongName", "NoAnswer"]:
            error = getattr(errors, name)
            with self.subTest(name):
                self.assertIsInstance(error(), error)
                self.assertFalse(hasattr(error(), GIVEN))
                self.assertFalse(hasattr(error(), INDEX))
                self.assertRaises(TypeError, error, 1)
                self.assertRaises(TypeError, error, given=1)
                self.assertRaises(TypeError, error, index=1)

    def test_raised_and_caught(self):
        for base, name, attribute in all_classes():
            with self.subTest(name):
                raised = getattr(errors, name)(*([3] if attribute else []))
                for caught in [BASES[base][0], getattr(errors, base), type(raised)]:
                    with self.assertRaises(caught) as held:
                        raise raised
                    self.assertIs(held.exception, raised)
                self.assertTrue(raised)
                self.assertTrue(raised == raised)
                self.assertFalse(raised != raised)

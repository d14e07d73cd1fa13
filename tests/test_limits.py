"""The limits: the interface, "pairsums/limits.py"."""

import unittest

from pairsums import limits


class Limits(unittest.TestCase):
    def test_values(self):
        expected = {
            "MOST_COLUMNS": 8,
            "MOST_SUMS": 10,
            "MOST_DATA": 24,
            "MOST_DIAL": 1000000000,
            "MOST_BITS": 60,
            "MOST_VALUE": int("1" + "0" * 30),
            "MOST_SUM": int("1" + "0" * 32),
            "MOST_PLACES": 14,
        }
        for name, value in expected.items():
            with self.subTest(name):
                self.assertEqual(getattr(limits, name), value)
                self.assertIs(type(getattr(limits, name)), int)

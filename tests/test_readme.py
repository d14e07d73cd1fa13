"""The examples of README.md."""

import doctest
import os
import unittest

README = os.path.join(os.path.dirname(os.path.dirname(os.path.abspath(__file__))), "README.md")


class Readme(unittest.TestCase):
    def test_examples(self):
        with open(README, encoding="utf-8") as file:
            text = file.read().replace("```", "")
        examples = doctest.DocTestParser().get_examples(text)
        known = {}
        for example in examples:
            if example.source.startswith("with "):
                # Its last row shows a value, which Python tells at its own prompt alone.
                *rows, last = example.source.splitlines()
                exec("\n".join(rows + ["    told = " + last.strip()]), known)
                self.assertEqual(repr(known["told"]), example.want.strip())
            elif example.want.strip():
                self.assertEqual(repr(eval(example.source, known)), example.want.strip(), example.source)
            else:
                exec(example.source, known)
        self.assertGreater(len(examples), 30)

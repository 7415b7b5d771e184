"""The examples of the interface and of README.md, word by word."""

import doctest
import os
import unittest

ROWS = """
>>> from sortstretches.rows import inversions, is_at_most, run, stages
>>> [run([4, 3, 2, 1], [(1, 2), (2, 4)]), list(stages([3, 1, 2], [(2, 3), (1, 2)])), is_at_most([1, 3, 2], [3, 1, 2]), inversions([4, 3, 2, 1])]
[[3, 1, 2, 4], [[3, 1, 2], [3, 1, 2], [1, 3, 2]], True, 6]
"""

EFFECTS = """
>>> from sortstretches.effects import effect, joined, powered, result
>>> wanted = effect(3, [(1, 2), (2, 3)])
>>> [wanted, result([30, 10, 20], wanted), joined(wanted, wanted), powered(wanted, 10 ** 20), effect(3, [])]
[[2, 1, 3], [10, 20, 30], [1, 2, 3], [1, 2, 3], [3, 2, 1]]
"""

README = os.path.join(os.path.dirname(os.path.abspath(__file__)), os.pardir, "README.md")


class ExamplesTest(unittest.TestCase):

    def check_examples(self, text, name, many):
        test = doctest.DocTestParser().get_doctest(text, {}, name, None, None)
        self.assertEqual(len(test.examples), many)
        told = []
        results = doctest.DocTestRunner(verbose=False).run(test, out=told.append)
        self.assertEqual(results.failed, 0, "".join(told))

    def test_rows(self):
        self.check_examples(ROWS, "rows", 2)

    def test_effects(self):
        self.check_examples(EFFECTS, "effects", 3)

    def test_readme(self):
        with open(README, encoding="utf-8") as file:
            text = file.read()
        self.check_examples(text, "README.md", text.count(">>> "))


if __name__ == "__main__":
    unittest.main()

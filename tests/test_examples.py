"""The examples of the interface and of README.md, word by word."""

import doctest
import os
import unittest

from sortstretches.errors import Unreadable
from sortstretches.readings import read_script

ROWS = """
>>> from sortstretches.rows import inversions, is_at_most, run, stages
>>> [run([4, 3, 2, 1], [(1, 2), (2, 4)]), list(stages([3, 1, 2], [(2, 3), (1, 2)])), is_at_most([1, 3, 2], [3, 1, 2]), inversions([4, 3, 2, 1])]
[[3, 1, 2, 4], [[3, 1, 2], [3, 1, 2], [1, 3, 2]], True, 6]
"""

EFFECTS = """
>>> from sortstretches.effects import effect, joined, powered, result
>>> wanted = effect(3, [(1, 2), (2, 3)])
>>> [wanted, result([30, 10, 20], wanted), joined(wanted, wanted), powered(wanted, 10 ** 20), effect(3, [])]
[[2, 1, 3], [10, 20, 30], [1, 2, 3], [1, 2, 3], [3, 2, 1]]
"""

SCRIPTS = """
>>> from sortstretches.scripts import idle_commands, parting_row, same_scripts, trimmed
>>> [same_scripts(3, [(1, 2), (2, 3), (1, 2)], [(1, 3)]), idle_commands(4, [(1, 3), (2, 3), (2, 4), (3, 3)]), trimmed(4, [(1, 3), (2, 3), (1, 4)]), parting_row(3, [(1, 3)], [(2, 3), (1, 3)])]
[True, [1, 3], [(1, 3), (1, 4)], None]
"""

ORDERS = """
>>> from sortstretches.orders import sorts_at_least_as_far, worst_distance, worst_inversions
>>> [sorts_at_least_as_far(3, [(1, 2), (2, 3)], [(2, 3)]), worst_inversions(4, [(1, 2), (3, 4)]), worst_distance(4, [(1, 2), (3, 4)])]
[True, 4, 2]
"""

BACKWARD = """
>>> from sortstretches.backward import gets_sorted, greatest_before, greatest_row, is_result
>>> script = [(1, 2), (2, 3)]
>>> [greatest_row(3, script), gets_sorted([2, 3, 1], script), gets_sorted([5, 5, 5], []), greatest_before(script, [2, 1, 3]), is_result([2, 1, 3], script), is_result([1, 3, 2], script)]
[[3, 1, 2], False, True, [3, 2, 1], True, False]
"""

COMPLETING = """
>>> from sortstretches.completing import missing_ahead, missing_behind, one_ahead, one_behind
>>> script = [(1, 2), (2, 3)]
>>> [missing_behind(3, script), missing_ahead(3, script), one_behind(3, script), one_ahead(3, script), one_behind(3, [(1, 3)])]
[1, 1, (1, 2), (2, 3), None]
"""

REPEATING = """
>>> from sortstretches.repeating import blocks, count_unchanged, nth_unchanged, rounds, turns
>>> script = [(1, 2), (2, 3)]
>>> [rounds(3, script), blocks(5, [(1, 2), (2, 3), (4, 4)]), count_unchanged(4, script), nth_unchanged(4, script, 1), turns(1, 1, 2), turns(10 ** 20, 3, 10 ** 21)]
[2, [(1, 3), (4, 4), (5, 5)], 4, [1, 2, 4, 3], 4, 66666666666666666670]
"""

COUNTING = """
>>> from sortstretches.counting import count_sorted, count_sorted_bits, nth_sorted_bits, results
>>> script = [(1, 2), (2, 3)]
>>> [[count_sorted_bits(3, script, zeros) for zeros in range(4)], nth_sorted_bits(3, script, 1, 0), count_sorted(3, script), list(results(3, script))]
[[1, 2, 3, 1], [0, 1, 1], 4, [[1, 2, 3], [2, 1, 3]]]
"""

HIDDEN = """
>>> from sortstretches.effects import effect
>>> from sortstretches.hidden import HiddenScript, find
>>> hidden = HiddenScript(4, [(1, 3), (2, 4)])
>>> [effect(4, find(hidden)) == effect(4, [(1, 3), (2, 4)]), len(find(hidden)), hidden.questions]
[True, 5, 2]
"""

LIVE = """
>>> from sortstretches.live import LiveRow, ScriptBook
>>> live = LiveRow.descending(3)
>>> live.perform((1, 2), (2, 3))
>>> live.undo()
>>> book = ScriptBook(3)
>>> book.put('a', [(1, 2)])
>>> book.put('b', [(1, 2), (2, 3)])
>>> book.put('c', [(1, 2), (1, 2)])
>>> [live.row, live.is_sorted, list(live.past()), list(book.classes()), book.best()]
[[2, 3, 1], False, [[3, 2, 1], [2, 3, 1]], [['a', 'c'], ['b']], ['b']]
"""

TEXTS = """
>>> from sortstretches.texts import show_script
>>> show_script([(1, 3), (2, 4), (2, 4), (5, 5)])
'1-3 2-4*2 5'
"""

# The interface shows the error of the last line as "raises Unreadable('3-1')".
READINGS = """
>>> from sortstretches.readings import read_script
>>> read_script('3-1')
Traceback (most recent call last):
sortstretches.errors.Unreadable: 3-1
"""

README = os.path.join(os.path.dirname(os.path.abspath(__file__)), os.pardir, "README.md")


class ExamplesTest(unittest.TestCase):

    def check_examples(self, text, name, many):
        test = doctest.DocTestParser().get_doctest(text, {}, name, None, None)
        self.assertEqual(len(test.examples), many)
        told = []
        results = doctest.DocTestRunner(verbose=False).run(test, out=told.append)
        self.assertEqual(results.failed, 0, "".join(told))

    def test_rows(self):
        self.check_examples(ROWS, "rows", 2)

    def test_effects(self):
        self.check_examples(EFFECTS, "effects", 3)

    def test_scripts(self):
        self.check_examples(SCRIPTS, "scripts", 2)

    def test_orders(self):
        self.check_examples(ORDERS, "orders", 2)

    def test_backward(self):
        self.check_examples(BACKWARD, "backward", 3)

    def test_completing(self):
        self.check_examples(COMPLETING, "completing", 3)

    def test_repeating(self):
        self.check_examples(REPEATING, "repeating", 3)

    def test_counting(self):
        self.check_examples(COUNTING, "counting", 3)

    def test_hidden(self):
        self.check_examples(HIDDEN, "hidden", 4)

    def test_live(self):
        self.check_examples(LIVE, "live", 9)

    def test_texts(self):
        self.check_examples(TEXTS, "texts", 2)

    def test_readings(self):
        self.check_examples(READINGS, "readings", 2)
        with self.assertRaises(Unreadable) as caught:
            read_script('3-1')
        self.assertEqual(repr(caught.exception), "Unreadable('3-1')")
        self.assertEqual(caught.exception.value, '3-1')

    def test_readme(self):
        with open(README, encoding="utf-8") as file:
            text = file.read()
        self.check_examples(text, "README.md", text.count(">>> "))


if __name__ == "__main__":
    unittest.main()

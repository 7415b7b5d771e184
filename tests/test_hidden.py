"""Tests of sortstretches.hidden (points 2, 3, 4 and 7)."""

import inspect
import itertools
import unittest

from sortstretches.effects import effect
from sortstretches.errors import InvalidCommand, InvalidSize, UnequalSizes
from sortstretches.hidden import HiddenScript, find
from sortstretches.rows import inversions
from sortstretches.scripts import exchanges
from tests.support import (
    GREAT, CallTest, arrangements, plain_run, scripts_to_try, shortest_exchange_scripts,
    source_of, wide_scripts)

HOME = "sortstretches.hidden"
SIXTY = list(range(1, 61))


class HiddenScriptTest(CallTest):

    def test_home(self):
        self.check_home(HiddenScript, HOME, ["size", "commands"])
        self.assertEqual(list(inspect.signature(HiddenScript.ask).parameters), ["self", "row"])
        self.assertTrue(inspect.isfunction(vars(HiddenScript)["ask"]))
        for name in ("size", "questions"):
            self.assertIsInstance(vars(HiddenScript)[name], property)

    def test_it_is_made_by_position_and_by_name(self):
        for hidden in (HiddenScript(3, [(1, 2)]), HiddenScript(commands=[(1, 2)], size=3)):
            self.check_same([hidden.size, hidden.questions], [3, 0])
            self.check(hidden.ask, [2, 3, 1], row=[3, 2, 1])
            self.check_same([hidden.size, hidden.questions], [3, 2])

    def test_ordinary_rows(self):
        hidden = HiddenScript(4, [(1, 2), (2, 4)])
        self.check(hidden.ask, [3, 1, 2, 4], row=[4, 3, 2, 1])
        self.check(hidden.ask, [5, 5, 7, 9], row=[9, 5, 7, 5])
        self.check(hidden.ask, [0, -GREAT, 0, GREAT], row=[GREAT, 0, -GREAT, 0])

    def test_edges(self):
        for script in ([], [(1, 1)]):
            hidden = HiddenScript(1, script)
            self.check(hidden.ask, [7], row=[7])
        for script in ([], [(1, 1), (2, 2), (3, 3)]):
            hidden = HiddenScript(3, script)
            self.check(hidden.ask, [3, 3, 1], row=[3, 3, 1])
        self.check(HiddenScript(60, [(1, 60)]).ask, SIXTY, row=SIXTY[::-1])

    def test_against_the_running_of_the_script(self):
        for size in range(1, 4):
            for script in scripts_to_try(size):
                hidden = HiddenScript(size, script)
                for row in itertools.product([-3, 0, 8], repeat=size):
                    self.check(hidden.ask, plain_run(list(row), script), row=list(row))
                self.check_same(hidden.questions, 2 * 3 ** size)

    def test_sixty_places_with_two_hundred_commands(self):
        source = source_of(91)
        for script in wide_scripts():
            hidden = HiddenScript(60, script)
            for _ in range(50):
                row = [source.randint(-GREAT, GREAT) for _ in range(60)]
                self.check(hidden.ask, plain_run(row, script), row=row)
            self.check_same([hidden.size, hidden.questions], [60, 100])

    def test_the_questions_are_counted(self):
        hidden = HiddenScript(2, [(1, 2)])
        other = HiddenScript(2, [(1, 2)])
        for many in range(5):
            self.check_same(hidden.questions, many)
            hidden.ask([2, 1])
        self.check_same([hidden.questions, other.questions], [5, 0])

    def test_neither_is_set_from_outside(self):
        hidden = HiddenScript(2, [(1, 2)])
        for name in ("size", "questions"):
            with self.assertRaises(AttributeError):
                setattr(hidden, name, 5)
        self.check_same([hidden.size, hidden.questions], [2, 0])

    def test_the_script_that_was_handed_over_may_be_changed(self):
        script = [(1, 2)]
        hidden = HiddenScript(3, script)
        script.append((1, 3))
        script[0] = (2, 3)
        self.check(hidden.ask, [2, 3, 1], row=[3, 2, 1])
        script.clear()
        self.check(hidden.ask, [2, 3, 1], row=[3, 2, 1])

    def test_the_size_is_less_than_one(self):
        self.check_size_errors(HiddenScript, commands=[])
        self.check_error(HiddenScript, InvalidSize, 0, size=0, commands=[(1, 0)])

    def test_the_first_wrong_command(self):
        self.check_script_errors(HiddenScript, size=3)
        self.check_error(HiddenScript, InvalidCommand, 1, size=1, commands=[(1, 1), (1, 2)])

    def test_the_row_has_another_size(self):
        hidden = HiddenScript(3, [(1, 3)])
        hidden.ask([3, 2, 1])
        for row in ([], [1], [2, 1], [4, 3, 2, 1], SIXTY):
            self.check_error(hidden.ask, UnequalSizes, None, row=row)
            # A question that was not answered does not count.
            self.check_same([hidden.size, hidden.questions], [3, 1])
        self.check(hidden.ask, [1, 2, 3], row=[3, 2, 1])


class FindTest(CallTest):

    def check_find(self, size, commands, many):
        """Check that a script of so many exchanges is found by one question for each call."""
        hidden = HiddenScript(size, commands)

        def check_answer(answer):
            self.check_same(len(answer), many)
            for command in answer:
                self.assertIs(type(command), tuple)
                self.assertIn(command, [(i, i + 1) for i in range(1, size)])
            self.assertEqual(effect(size, answer), plain_run(list(range(size, 0, -1)), commands))

        for asked in (2, 4):
            self.check_fits_hidden(check_answer, hidden)
            self.check_same([hidden.size, hidden.questions], [size, asked])

    def check_fits_hidden(self, check_answer, hidden):
        """Check what is found, by position and by name, and that it may be changed."""
        told = find(hidden)
        self.assertIs(type(told), list)
        check_answer(told)
        told.append("spoiled")
        check_answer(find(hidden=hidden))

    def test_home(self):
        self.check_home(find, HOME, ["hidden"])

    def test_ordinary_scripts(self):
        self.check_find(4, [(1, 3), (2, 4)], 5)
        self.check_find(3, [(1, 2), (2, 3)], 2)
        self.assertEqual(find(HiddenScript(3, [(1, 2), (2, 3)])), [(1, 2), (2, 3)])
        self.assertEqual(find(HiddenScript(3, [(2, 3), (2, 2), (1, 2), (1, 2)])), [(2, 3), (1, 2)])

    def test_edges(self):
        for script in ([], [(1, 1)]):
            self.check_find(1, script, 0)
            self.check_find(4, script, 0)
        self.check_find(2, [(1, 2)] * 200, 1)
        self.check_find(4, [(1, 4)], 6)
        self.check_find(60, [], 0)
        self.check_find(60, [(1, 60)], 1770)

    def test_nothing_shorter_does_the_same(self):
        for size in range(1, 5):
            rows = arrangements(size)
            lengths = {}
            for short in shortest_exchange_scripts(size):
                lengths[str([plain_run(row, short) for row in rows])] = len(short)
            for script in scripts_to_try(size):
                done = [plain_run(row, script) for row in rows]
                self.check_find(size, script, lengths[str(done)])
                found = find(HiddenScript(size, script))
                self.assertEqual([plain_run(row, found) for row in rows], done)

    def test_sixty_places_with_two_hundred_commands(self):
        for script in wide_scripts():
            self.check_find(60, script, 1770 - inversions(effect(60, script)))

    def test_what_is_returned_may_be_passed_on(self):
        self.check_find(60, exchanges(SIXTY), 1770)
        self.check_find(60, find(HiddenScript(60, [(2, 59)])), 58 * 57 // 2)


if __name__ == "__main__":
    unittest.main()

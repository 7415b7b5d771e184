"""Tests of sortstretches.completing (points 2, 4, 6, 7, 8 and 9)."""

import unittest

from sortstretches.backward import greatest_row
from sortstretches.completing import (
    ahead, behind, missing_ahead, missing_behind, one_ahead, one_behind)
from sortstretches.effects import effect
from sortstretches.errors import InvalidCommand
from sortstretches.rows import run
from sortstretches.scripts import exchanges
from tests.support import (
    CallTest, commands_for, plain_inversions, plain_run, random_arrangement,
    random_short_script, scripts_to_try, shortest_exchange_scripts, sorts_all, source_of,
    wide_scripts)

HOME = "sortstretches.completing"
SIXTY = list(range(1, 61))
FUNCTIONS = [missing_behind, missing_ahead, behind, ahead, one_behind, one_ahead]

# Scripts that are as wide as rows may be, of which some sort nearly all rows.
WIDE = wide_scripts() + [
    [], [(1, 1), (60, 60)], [(1, 60)], [(2, 60)], [(1, 59)], [(1, 59), (2, 60)],
    [(2, 60), (1, 59)], [(1, 30), (31, 60)], [(1, 40), (21, 60)], [(1, 40), (21, 60), (1, 40)],
    [(10, 20)] * 200]


def many_places(command):
    """Return the number of places of a command."""
    return command[1] - command[0] + 1


class EveryFunctionTest(CallTest):

    def test_homes(self):
        for function in FUNCTIONS:
            self.check_home(function, HOME, ["size", "commands"])

    def test_the_size_is_less_than_one(self):
        for function in FUNCTIONS:
            self.check_size_errors(function, commands=[])

    def test_the_first_wrong_command(self):
        for function in FUNCTIONS:
            self.check_script_errors(function, size=3)
            self.check_error(function, InvalidCommand, 0, size=1, commands=[(1, 2)])
            self.check_error(function, InvalidCommand, 1, size=60, commands=[(1, 60), (1, 61)])


class CompletingTest(CallTest):

    def check_behind(self, size, commands, many):
        """Check `missing_behind` and `behind`: exactly so many commands, which sort the effect."""
        self.check(missing_behind, many, size=size, commands=commands)

        def check_answer(answer):
            self.check_same(len(answer), many)
            self.check_exchanges(size, answer)
            self.assertEqual(run(effect(size, commands), answer), list(range(1, size + 1)))

        self.check_fits(behind, check_answer, size=size, commands=commands)

    def check_ahead(self, size, commands, many):
        """Check `missing_ahead` and `ahead`: exactly so many commands, whose effect gets sorted."""
        self.check(missing_ahead, many, size=size, commands=commands)

        def check_answer(answer):
            self.check_same(len(answer), many)
            self.check_exchanges(size, answer)
            self.assertEqual(run(effect(size, answer), commands), list(range(1, size + 1)))

        self.check_fits(ahead, check_answer, size=size, commands=commands)

    def check_exchanges(self, size, commands):
        """Check that this is a list of tuples (i, i + 1) for a size."""
        self.assertIs(type(commands), list)
        for command in commands:
            self.assertIs(type(command), tuple)
            self.assertIn(command, [(i, i + 1) for i in range(1, size)])

    def test_ordinary_scripts(self):
        script = [(1, 2), (2, 3)]
        self.check_behind(3, script, 1)
        self.check_ahead(3, script, 1)
        self.check(behind, [(1, 2)], size=3, commands=script)
        self.check(ahead, [(2, 3)], size=3, commands=script)
        self.check_behind(4, [(1, 3)], 3)
        self.check_ahead(4, [(1, 3)], 3)
        self.check(behind, [(3, 4), (2, 3), (1, 2)], size=4, commands=[(1, 3)])
        self.check(ahead, [(1, 2), (2, 3), (3, 4)], size=4, commands=[(1, 3)])
        self.check(behind, [(1, 2)], size=2, commands=[])
        self.check(ahead, [(1, 2)], size=2, commands=[])

    def test_edges(self):
        for script in ([], [(1, 1)], [(1, 1)] * 200):
            self.check_behind(1, script, 0)
            self.check_ahead(1, script, 0)
        for script in ([], [(1, 1)], [(1, 1), (4, 4), (2, 2)]):
            self.check_behind(4, script, 6)
            self.check_ahead(4, script, 6)
        for script in ([(1, 4)], [(1, 2), (1, 4), (3, 3)], [(1, 4), (1, 4)], [(1, 3), (2, 4), (1, 3)]):
            self.check_behind(4, script, 0)
            self.check_ahead(4, script, 0)

    def test_nothing_shorter_sorts_every_row(self):
        for size in range(1, 5):
            short = shortest_exchange_scripts(size)
            for script in scripts_to_try(size):
                put_behind = next(more for more in short if sorts_all(size, script + more))
                self.check_behind(size, script, len(put_behind))
                self.assertTrue(sorts_all(size, script + behind(size, script)))
                put_ahead = next(more for more in short if sorts_all(size, more + script))
                self.check_ahead(size, script, len(put_ahead))
                self.assertTrue(sorts_all(size, ahead(size, script) + script))

    def test_sixty_places(self):
        source = source_of(61)
        for script in WIDE:
            self.check_behind(60, script, plain_inversions(plain_run(SIXTY[::-1], script)))
            self.check_ahead(60, script, 1770 - plain_inversions(greatest_row(60, script)))
            both = [script + behind(60, script), ahead(60, script) + script]
            for row in [random_arrangement(source, 60) for _ in range(3)]:
                for longer in both:
                    self.assertEqual(plain_run(row, longer), SIXTY)

    def test_sixty_places_without_commands(self):
        self.check_behind(60, [], 1770)
        self.check_ahead(60, [], 1770)
        self.check_behind(60, [(1, 60)], 0)
        self.check_ahead(60, [(1, 60)], 0)

    def test_each_exchange_counts(self):
        source = source_of(62)
        for _ in range(20):
            script = random_short_script(source, 9, 8, 4)
            more = behind(9, script)
            for many in range(len(more) + 1):
                self.assertEqual(missing_behind(9, script + more[:many]), len(more) - many)
            more = ahead(9, script)
            for many in range(len(more) + 1):
                self.assertEqual(missing_ahead(9, more[many:] + script), many)

    def test_what_is_returned_may_be_passed_on(self):
        script = exchanges(SIXTY)
        self.check_behind(60, script, 0)
        self.check_ahead(60, script, 0)
        self.check_behind(60, script[1:], 1)
        self.check_ahead(60, script[:-1], 1)
        self.check_behind(60, ahead(60, []), 0)
        self.check_ahead(60, behind(60, []), 0)


class SingleCommandTest(CallTest):

    def test_ordinary_scripts(self):
        script = [(1, 2), (2, 3)]
        self.check(one_behind, (1, 2), size=3, commands=script)
        self.check(one_ahead, (2, 3), size=3, commands=script)
        self.check(one_behind, (1, 2), size=4, commands=[(1, 3), (2, 4)])
        self.check(one_ahead, (3, 4), size=4, commands=[(1, 3), (2, 4)])
        self.check(one_behind, (1, 3), size=4, commands=[(1, 2), (2, 4)])
        self.check(one_ahead, (2, 4), size=4, commands=[(1, 2), (2, 4)])
        self.check(one_behind, (1, 4), size=4, commands=[(1, 2), (3, 4)])
        self.check(one_ahead, (1, 4), size=4, commands=[(1, 2), (3, 4)])

    def test_edges(self):
        for script in ([], [(1, 1)]):
            self.check(one_behind, None, size=1, commands=script)
            self.check(one_ahead, None, size=1, commands=script)
            self.check(one_behind, (1, 2), size=2, commands=script)
            self.check(one_ahead, (1, 2), size=2, commands=script)
            self.check(one_behind, (1, 60), size=60, commands=script)
            self.check(one_ahead, (1, 60), size=60, commands=script)
        for script in ([(1, 3)], [(1, 2), (2, 3), (1, 2)], [(1, 3), (2, 2)]):
            self.check(one_behind, None, size=3, commands=script)
            self.check(one_ahead, None, size=3, commands=script)

    def test_against_all_single_commands(self):
        for size in range(1, 5):
            singles = sorted(commands_for(size), key=many_places)
            for script in scripts_to_try(size):
                wanted = [None, None]
                if not sorts_all(size, script):
                    wanted = [
                        next(one for one in singles if sorts_all(size, script + [one])),
                        next(one for one in singles if sorts_all(size, [one] + script))]
                self.check(one_behind, wanted[0], size=size, commands=script)
                self.check(one_ahead, wanted[1], size=size, commands=script)

    def test_five_places(self):
        source = source_of(63)
        singles = sorted(commands_for(5), key=many_places)
        for length in range(1, 9):
            script = random_short_script(source, 5, length, 4)
            if not sorts_all(5, script):
                told = next(one for one in singles if sorts_all(5, script + [one]))
                self.check(one_behind, told, size=5, commands=script)
                told = next(one for one in singles if sorts_all(5, [one] + script))
                self.check(one_ahead, told, size=5, commands=script)

    def check_wide(self, script, told, put):
        """Check what a single command does for sixty places, and that a shorter one does not."""
        self.assertIs(type(told), tuple)
        i, j = told
        self.assertEqual(effect(60, put((i, j))), SIXTY)
        self.assertNotEqual(effect(60, put((i + 1, j))), SIXTY)
        self.assertNotEqual(effect(60, put((i, j - 1))), SIXTY)

    def test_sixty_places(self):
        for script in WIDE:
            done = plain_run(SIXTY[::-1], script) == SIXTY
            self.assertEqual(done, one_behind(60, script) is None)
            self.assertEqual(done, one_ahead(60, script) is None)
            if not done:
                self.check_wide(script, one_behind(60, script), lambda one: script + [one])
                self.check_wide(script, one_ahead(60, script), lambda one: [one] + script)

    def test_sixty_places_that_are_nearly_sorted(self):
        self.check(one_behind, (1, 40), size=60, commands=[(1, 40), (21, 60)])
        self.check(one_ahead, (21, 60), size=60, commands=[(1, 40), (21, 60)])
        self.check(one_behind, None, size=60, commands=[(1, 40), (21, 60), (1, 40)])
        self.check(one_behind, (1, 60), size=60, commands=[(2, 60)])
        self.check(one_ahead, (1, 60), size=60, commands=[(2, 60)])

    def test_what_is_returned_may_be_passed_on(self):
        script = exchanges(SIXTY)
        self.check(one_behind, None, size=60, commands=script)
        self.check(one_ahead, None, size=60, commands=script)
        self.assertEqual(many_places(one_behind(60, script[:-1])), 2)
        self.assertEqual(many_places(one_ahead(60, script[1:])), 2)


if __name__ == "__main__":
    unittest.main()

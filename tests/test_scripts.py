"""Tests of sortstretches.scripts (points 2, 4, 5, 6 and 7)."""

import itertools
import unittest

from sortstretches.effects import effect, joined, powered, result
from sortstretches.errors import InvalidCommand, InvalidRow, InvalidSize
from sortstretches.rows import inversions, run, stages
from sortstretches.scripts import exchanges, idle_commands, parting_row, same_scripts, trimmed
from tests.support import (
    GREAT, CallTest, arrangements, commands_for, plain_run, random_arrangement, random_script,
    random_short_script, scripts_of_all_effects, scripts_to_try, source_of, wide_scripts)

HOME = "sortstretches.scripts"


def descending(size):
    """Return the arrangement that descends."""
    return list(range(size, 0, -1))


def rows_of_few_values(size):
    """Return all rows of a size of some values, equal ones among them."""
    return [list(row) for row in itertools.product([-GREAT, 0, GREAT], repeat=size)]


def plain_results(size, commands):
    """Return what a script makes of all arrangements, run one by one."""
    return [plain_run(row, commands) for row in arrangements(size)]


def plain_idle_commands(size, commands):
    """Tell for each command whether it changes any row at its turn, all run one by one."""
    rows = arrangements(size)
    idle = []
    for index, command in enumerate(commands):
        further = [plain_run(row, [command]) for row in rows]
        if further == rows:
            idle.append(index)
        rows = further
    return idle


def plain_trimmed(size, commands):
    """Try all commands at the turn of each one, on the row of its turn."""
    found = []
    row = descending(size)
    for command in commands:
        further = plain_run(row, [command])
        if further != row:
            same = [(j - i, (i, j)) for i, j in commands_for(size) if plain_run(row, [(i, j)]) == further]
            found.append(min(same)[1])
        row = further
    return found


def fewest_exchanges(size):
    """Return a dict that tells for each effect, as a tuple, the least number of commands (i, i + 1)."""
    found = {tuple(descending(size)): 0}
    waiting = list(found)
    for row in waiting:
        for i in range(1, size):
            made = tuple(plain_run(list(row), [(i, i + 1)]))
            if made not in found:
                found[made] = found[row] + 1
                waiting.append(made)
    return found


class PairErrorsTest(CallTest):
    """The errors of the functions of two scripts."""

    FUNCTIONS = (same_scripts, parting_row)

    def test_the_size_is_less_than_one(self):
        for function in self.FUNCTIONS:
            self.check_size_errors(function, first=[], second=[])

    def test_the_first_wrong_command(self):
        for function in self.FUNCTIONS:
            self.check_script_errors(function, "first", size=3, first=[], second=[])
            self.check_script_errors(function, "second", size=3, first=[], second=[])
            self.check_script_errors(function, "first", size=3, first=[], second=[(1, 3)])
            self.check_script_errors(function, "second", size=3, first=[(1, 3)], second=[])
            self.check_error(function, InvalidCommand, 0, size=1, first=[(1, 2)], second=[])
            self.check_error(function, InvalidCommand, 0, size=1, first=[], second=[(1, 2)])

    def test_the_size_is_checked_before_both_scripts(self):
        for function in self.FUNCTIONS:
            self.check_error(function, InvalidSize, 0, size=0, first=[(0, 0)], second=[])
            self.check_error(function, InvalidSize, -3, size=-3, first=[], second=[(2, 1)])

    def test_the_first_script_is_checked_before_the_second_one(self):
        for function in self.FUNCTIONS:
            self.check_error(
                function, InvalidCommand, 1, size=3, first=[(1, 2), (0, 1)], second=[(4, 4)])
            self.check_error(
                function, InvalidCommand, 2, size=3, first=[(1, 2), (1, 1), (3, 4)],
                second=[(1, 2), (2, 1)])
            self.check_error(
                function, InvalidCommand, 1, size=3, first=[(1, 2)] * 9, second=[(1, 2), (2, 4), (0, 0)])

    def test_equal_wrong_scripts(self):
        for function in self.FUNCTIONS:
            self.check_error(function, InvalidCommand, 1, size=2, first=[(1, 1), (1, 3)], second=[(1, 3)])


class SameScriptsTest(CallTest):

    def test_home(self):
        self.check_home(same_scripts, HOME, ["size", "first", "second"])

    def test_ordinary_scripts(self):
        self.check(same_scripts, True, size=3, first=[(1, 2), (2, 3), (1, 2)], second=[(1, 3)])
        self.check(
            same_scripts, True, size=3, first=[(1, 2), (2, 3), (1, 2)], second=[(2, 3), (1, 2), (2, 3)])
        self.check(same_scripts, True, size=4, first=[(1, 2), (3, 4)], second=[(3, 4), (1, 2)])
        self.check(same_scripts, False, size=3, first=[(1, 2), (2, 3)], second=[(2, 3), (1, 2)])
        self.check(same_scripts, False, size=4, first=[(1, 3)], second=[(1, 4)])

    def test_edges(self):
        self.check(same_scripts, True, size=1, first=[], second=[])
        self.check(same_scripts, True, size=1, first=[(1, 1)], second=[(1, 1), (1, 1)])
        self.check(same_scripts, True, size=3, first=[], second=[])
        self.check(same_scripts, True, size=3, first=[], second=[(2, 2), (3, 3), (1, 1)])
        self.check(same_scripts, True, size=3, first=[(1, 2), (1, 2)], second=[(1, 2)])
        self.check(same_scripts, True, size=3, first=[(1, 3)], second=[(1, 3), (2, 3), (1, 2)])
        self.check(same_scripts, False, size=2, first=[], second=[(1, 2)])

    def test_one_list_for_both(self):
        script = [(1, 2), (2, 4)]
        self.assertIs(same_scripts(4, script, script), True)
        self.assertEqual(script, [(1, 2), (2, 4)])

    def test_against_all_arrangements(self):
        for size in range(1, 5):
            scripts = scripts_to_try(size)
            results = [plain_results(size, script) for script in scripts]
            for (first, made), (second, other) in itertools.product(zip(scripts, results), repeat=2):
                self.check(same_scripts, made == other, size=size, first=first, second=second)

    def test_against_rows_of_equal_values(self):
        scripts = [list(pair) for pair in itertools.product(commands_for(3), repeat=2)]
        deeds = [[plain_run(row, script) for row in rows_of_few_values(3)] for script in scripts]
        for (first, made), (second, other) in itertools.product(zip(scripts, deeds), repeat=2):
            self.assertEqual(same_scripts(3, first, second), made == other)

    def test_sixty_places_with_two_hundred_commands(self):
        scripts = wide_scripts()
        scripts += [script[:199] + [(1, 60)] for script in scripts] + [script[1:] for script in scripts]
        effects = [effect(60, script) for script in scripts]
        for (first, made), (second, other) in itertools.product(zip(scripts, effects), repeat=2):
            self.check(same_scripts, made == other, size=60, first=first, second=second)

    def test_sixty_places_of_which_one_exchange_is_missing(self):
        up = [(i, i + 1) for i in range(1, 60)]
        self.check(same_scripts, True, size=60, first=up + up[:57], second=up + up[:57] + [(60, 60)])
        self.check(same_scripts, False, size=60, first=up + up[:57], second=up + up[:58])
        self.check(same_scripts, True, size=60, first=up + [(1, 60)], second=[(1, 60)])


class PartingRowTest(CallTest):

    def check_parts(self, size, first, second, same):
        """Check that the answer is a bit row of which the scripts make different rows, or None."""
        def check_answer(answer):
            if same:
                self.assertIsNone(answer)
                return
            self.assertIs(type(answer), list)
            self.assertEqual(len(answer), size)
            for bit in answer:
                self.assertIs(type(bit), int)
                self.assertIn(bit, (0, 1))
            self.assertNotEqual(plain_run(answer, first), plain_run(answer, second))

        self.check_fits(parting_row, check_answer, size=size, first=first, second=second)

    def test_home(self):
        self.check_home(parting_row, HOME, ["size", "first", "second"])

    def test_ordinary_scripts(self):
        self.check_parts(3, [(1, 2), (2, 3)], [(2, 3), (1, 2)], False)
        self.check_parts(4, [(1, 3)], [(1, 4)], False)
        self.check_parts(4, [(1, 4)], [(2, 4), (1, 3)], False)
        self.check(parting_row, None, size=3, first=[(1, 3)], second=[(2, 3), (1, 3)])
        self.check(parting_row, None, size=4, first=[(1, 2), (3, 4)], second=[(3, 4), (1, 2)])

    def test_edges(self):
        self.check(parting_row, None, size=1, first=[], second=[])
        self.check(parting_row, None, size=1, first=[], second=[(1, 1)])
        self.check(parting_row, None, size=4, first=[], second=[])
        self.check(parting_row, None, size=4, first=[(1, 1), (4, 4)], second=[])
        self.check(parting_row, None, size=4, first=[(1, 3), (2, 3)], second=[(1, 3)])
        self.check(parting_row, [1, 0], size=2, first=[], second=[(1, 2)])
        self.check(parting_row, [1, 0], size=2, first=[(1, 2)], second=[(1, 1), (2, 2)])

    def test_against_all_arrangements(self):
        for size in range(1, 5):
            scripts = scripts_to_try(size)
            results = [plain_results(size, script) for script in scripts]
            for (first, made), (second, other) in itertools.product(zip(scripts, results), repeat=2):
                self.check_parts(size, first, second, made == other)

    def test_sixty_places_with_two_hundred_commands(self):
        scripts = wide_scripts()
        scripts += [script[:199] for script in scripts] + [script[1:] for script in scripts]
        effects = [effect(60, script) for script in scripts]
        for (first, made), (second, other) in itertools.product(zip(scripts, effects), repeat=2):
            self.check_parts(60, first, second, made == other)

    def test_sixty_places_of_which_one_exchange_is_missing(self):
        up = [(i, i + 1) for i in range(1, 60)]
        self.check_parts(60, up + up[:57], up + up[:58], False)
        self.check_parts(60, up + up[:58], up + up[:57], False)
        self.check_parts(60, [(1, 60)], [(1, 59), (2, 60)], False)


class IdleCommandsTest(CallTest):

    def test_home(self):
        self.check_home(idle_commands, HOME, ["size", "commands"])

    def test_ordinary_scripts(self):
        self.check(idle_commands, [1, 3], size=4, commands=[(1, 3), (2, 3), (2, 4), (3, 3)])
        self.check(idle_commands, [], size=3, commands=[(1, 2), (2, 3), (1, 2)])
        self.check(idle_commands, [3, 4, 5], size=3, commands=[(1, 2), (2, 3), (1, 2), (2, 3), (1, 3), (1, 2)])
        self.check(idle_commands, [2], size=4, commands=[(1, 2), (3, 4), (1, 2), (2, 3)])

    def test_a_command_may_act_again_later(self):
        self.check(idle_commands, [1], size=3, commands=[(1, 2), (1, 2), (2, 3), (1, 2)])

    def test_a_command_that_changes_few_rows_is_not_idle(self):
        # Only of rows that have their least value last does the last command change anything.
        self.check(idle_commands, [], size=5, commands=[(1, 4), (2, 5), (1, 2)])

    def test_edges(self):
        self.check(idle_commands, [], size=1, commands=[])
        self.check(idle_commands, [], size=60, commands=[])
        self.check(idle_commands, [0, 1], size=1, commands=[(1, 1), (1, 1)])
        self.check(idle_commands, [0, 1, 2], size=3, commands=[(1, 1), (3, 3), (2, 2)])
        self.check(idle_commands, [1, 2], size=2, commands=[(1, 2), (1, 2), (1, 2)])

    def test_every_script_of_three_commands_for_three_places(self):
        for script in itertools.product(commands_for(3), repeat=3):
            wanted = plain_idle_commands(3, script)
            self.check(idle_commands, wanted, size=3, commands=list(script))

    def test_against_all_arrangements(self):
        source = source_of(21)
        for size in range(1, 6):
            scripts = [random_script(source, size, 6) for _ in range(20)]
            scripts += [random_short_script(source, size, 12, 2) for _ in range(20)]
            for script in scripts:
                self.check(idle_commands, plain_idle_commands(size, script), size=size, commands=script)

    def test_idle_commands_change_no_row_of_equal_values(self):
        source = source_of(22)
        for _ in range(10):
            script = random_short_script(source, 5, 15, 3)
            idle = idle_commands(5, script)
            for row in rows_of_few_values(5):
                rows = list(stages(row, script))
                for index in idle:
                    self.assertEqual(rows[index], rows[index + 1])

    def test_sixty_places_with_two_hundred_commands(self):
        for script in wide_scripts():
            rows = list(stages(descending(60), script))
            wanted = [index for index in range(200) if rows[index] == rows[index + 1]]
            self.check(idle_commands, wanted, size=60, commands=script)
            self.assertIn(len(wanted), range(1, 200))

    def test_sixty_places_all_of_whose_commands_but_one_are_idle(self):
        script = [(5, 5)] * 99 + [(1, 60)] + [(1, 60)] * 50 + [(7, 31)] * 50
        wanted = list(range(99)) + list(range(100, 200))
        self.check(idle_commands, wanted, size=60, commands=script)

    def test_the_size_is_less_than_one(self):
        self.check_size_errors(idle_commands, commands=[])

    def test_the_first_wrong_command(self):
        self.check_script_errors(idle_commands, size=3)
        self.check_error(idle_commands, InvalidCommand, 1, size=1, commands=[(1, 1), (1, 2)])


class TrimmedTest(CallTest):

    def test_home(self):
        self.check_home(trimmed, HOME, ["size", "commands"])

    def test_ordinary_scripts(self):
        self.check(trimmed, [(1, 3), (1, 4)], size=4, commands=[(1, 3), (2, 3), (1, 4)])
        self.check(trimmed, [(1, 3), (3, 4)], size=4, commands=[(1, 3), (3, 4)])
        self.check(trimmed, [(1, 2), (2, 3), (1, 2)], size=3, commands=[(1, 2), (2, 3), (1, 3), (1, 3)])
        self.check(trimmed, [(3, 4), (2, 3)], size=4, commands=[(3, 4), (2, 3), (3, 3)])

    def test_a_command_becomes_shorter(self):
        # The row of the last turn is 2 3 4 1 5, of which the greatest value is in its place.
        self.check(trimmed, [(1, 4), (4, 5), (3, 4)], size=5, commands=[(1, 4), (4, 5), (3, 5)])
        # It is 1 5 2 3 4, of which the least value is in its place.
        self.check(trimmed, [(2, 5), (1, 2), (2, 3)], size=5, commands=[(2, 5), (1, 2), (1, 3)])
        # It is 1 3 2 4.
        script = [(1, 2), (3, 4), (2, 3), (1, 2), (3, 4)]
        self.check(trimmed, script + [(2, 3)], size=4, commands=script + [(1, 4)])
        # Within the shortest stretch, a value may well stay where it is: the row is 3 2 1.
        self.check(trimmed, [(1, 3)], size=3, commands=[(1, 3)])

    def test_a_command_that_must_stay_long(self):
        # The row of the last turn is 4 5 1 2 3.
        self.check(trimmed, [(1, 2), (3, 5), (1, 5)], size=5, commands=[(1, 2), (3, 5), (1, 5)])
        self.check(trimmed, [(2, 5), (1, 5)], size=5, commands=[(2, 5), (1, 5)])

    def test_edges(self):
        self.check(trimmed, [], size=1, commands=[])
        self.check(trimmed, [], size=1, commands=[(1, 1), (1, 1)])
        self.check(trimmed, [], size=60, commands=[])
        self.check(trimmed, [], size=3, commands=[(1, 1), (3, 3), (2, 2)])
        self.check(trimmed, [(1, 2)], size=2, commands=[(1, 2), (1, 2), (1, 2)])
        self.check(trimmed, [(1, 60)], size=60, commands=[(4, 4), (1, 60), (1, 60), (2, 59)])

    def check_does_the_same(self, size, script):
        """Check what is trimmed against the running of both, and against all commands in its places."""
        self.check(trimmed, plain_trimmed(size, script), size=size, commands=script)
        shorter = trimmed(size, script)
        self.assertEqual(plain_results(size, shorter), plain_results(size, script))
        self.assertEqual(len(shorter), len(script) - len(plain_idle_commands(size, script)))

    def test_every_script_of_three_commands_for_three_places(self):
        for script in itertools.product(commands_for(3), repeat=3):
            self.check_does_the_same(3, list(script))

    def test_against_all_arrangements(self):
        source = source_of(23)
        for size in range(1, 6):
            for _ in range(20):
                self.check_does_the_same(size, random_script(source, size, 6))
                self.check_does_the_same(size, random_short_script(source, size, 12, 3))

    def test_sixty_places_with_two_hundred_commands(self):
        source = source_of(24)
        for script in wide_scripts():
            self.check(trimmed, plain_trimmed(60, script), size=60, commands=script)
            shorter = trimmed(60, script)
            self.assertEqual(effect(60, shorter), effect(60, script))
            self.assertEqual(idle_commands(60, shorter), [])
            self.assertEqual(trimmed(60, shorter), shorter)
            for values in ([0, 1], list(range(-GREAT, 60 - GREAT)), [-5, 0, 5]):
                row = [source.choice(values) for _ in range(60)]
                self.assertEqual(run(row, shorter), run(row, script))

    def test_what_is_returned_may_be_passed_on(self):
        script = exchanges(list(range(1, 61)))
        self.check(trimmed, list(script), size=60, commands=script)
        self.check(idle_commands, [], size=60, commands=script)
        self.check(same_scripts, True, size=60, first=script, second=[(1, 60)])
        self.check(parting_row, None, size=60, first=script, second=[(1, 60)])

    def test_the_size_is_less_than_one(self):
        self.check_size_errors(trimmed, commands=[])

    def test_the_first_wrong_command(self):
        self.check_script_errors(trimmed, size=3)
        self.check_error(trimmed, InvalidCommand, 1, size=1, commands=[(1, 1), (1, 2)])


class ExchangesTest(CallTest):

    def check_exchanges(self, wanted, many):
        """Check that the answer is a script of so many commands (i, i + 1) with this effect."""
        def check_answer(answer):
            self.assertIs(type(answer), list)
            self.assertEqual(len(answer), many)
            for command in answer:
                self.assertIs(type(command), tuple)
                i, j = command
                self.assertEqual([type(i), type(j)], [int, int])
                self.assertTrue(1 <= i < len(wanted))
                self.assertEqual(j, i + 1)
            self.assertEqual(plain_run(descending(len(wanted)), answer), wanted)

        self.check_fits(exchanges, check_answer, wanted=wanted)

    def test_home(self):
        self.check_home(exchanges, HOME, ["wanted"])

    def test_ordinary_effects(self):
        self.check(exchanges, [(1, 2), (2, 3)], wanted=[2, 1, 3])
        self.check(exchanges, [(2, 3), (1, 2)], wanted=[1, 3, 2])
        self.check_exchanges([1, 2, 3], 3)
        self.check_exchanges([3, 4, 1, 2], 2)
        self.check_exchanges([2, 4, 1, 3], 3)

    def test_edges(self):
        self.check(exchanges, [], wanted=[1])
        self.check(exchanges, [], wanted=[2, 1])
        self.check(exchanges, [(1, 2)], wanted=[1, 2])
        self.check(exchanges, [], wanted=descending(60))

    def test_no_shorter_script_of_exchanges_has_the_effect(self):
        for size in range(1, 7):
            fewest = fewest_exchanges(size)
            self.assertEqual(sorted(list(row) for row in fewest), arrangements(size))
            for wanted, many in fewest.items():
                self.check_exchanges(list(wanted), many)

    def test_it_does_the_same_as_any_script_with_the_effect(self):
        for size in range(1, 5):
            for wanted, script in scripts_of_all_effects(size).items():
                made = exchanges(list(wanted))
                self.assertEqual(plain_results(size, made), plain_results(size, script))
                for row in rows_of_few_values(size):
                    self.assertEqual(plain_run(row, made), plain_run(row, script))

    def test_sixty_places(self):
        source = source_of(25)
        self.check_exchanges(list(range(1, 61)), 1770)
        for wanted in [random_arrangement(source, 60) for _ in range(5)]:
            self.check_exchanges(wanted, 1770 - inversions(wanted))

    def test_sixty_places_with_two_hundred_commands(self):
        source = source_of(26)
        for script in wide_scripts():
            wanted = effect(60, script)
            self.check_exchanges(wanted, 1770 - inversions(wanted))
            made = exchanges(wanted)
            self.assertIs(same_scripts(60, made, script), True)
            row = [source.choice([-GREAT, -1, 0, 7, GREAT]) for _ in range(60)]
            self.assertEqual(run(row, made), run(row, script))
            self.assertEqual(result(row, wanted), run(row, made))
            self.assertEqual(joined(wanted, wanted), effect(60, made + made))
            self.assertEqual(powered(wanted, 3), effect(60, made * 3))

    def test_the_effect_is_wrong(self):
        self.check_arrangement_errors(exchanges, "wanted")
        self.check_error(exchanges, InvalidRow, 1, wanted=[1, 1, 0])


if __name__ == "__main__":
    unittest.main()

"""Tests of sortstretches.backward (points 2, 4, 5, 8 and 9)."""

import itertools
import unittest

from sortstretches.backward import (
    gets_sorted, greatest_before, greatest_row, is_result, witness)
from sortstretches.errors import InvalidCommand, InvalidRow, InvalidSize
from sortstretches.rows import is_at_most, run
from sortstretches.scripts import exchanges
from tests.support import (
    GREAT, WRONG_ARRANGEMENTS, CallTest, arrangements, plain_is_at_most, plain_run,
    random_arrangement, random_script, random_short_script, scripts_to_try, source_of,
    wide_scripts)

HOME = "sortstretches.backward"
SIXTY = list(range(1, 61))


def bits_of(row, limit):
    """Return the bit row that has 0 where the row has a value of at most the limit."""
    return [int(value > limit) for value in row]


def exchanged(row, i, j):
    """Return the row with the values at two places (from 0 on) exchanged."""
    made = list(row)
    made[i], made[j] = row[j], row[i]
    return made


def lower_ones(source, row, many):
    """Return arrangements that are at most one, by exchanges of values that descend."""
    found = []
    for _ in range(many):
        i, j = sorted(source.sample(range(len(row)), 2))
        if row[i] > row[j]:
            row = exchanged(row, i, j)
        found.append(row)
    return found


def next_greater_ones(row):
    """Return the arrangements that exchanges of neighbours that ascend make of one; they are greater."""
    return [exchanged(row, i, i + 1) for i in range(len(row) - 1) if row[i] < row[i + 1]]


class GreatestRowTest(CallTest):

    def test_home(self):
        self.check_home(greatest_row, HOME, ["size", "commands"])

    def test_ordinary_scripts(self):
        self.check(greatest_row, [3, 1, 2], size=3, commands=[(1, 2), (2, 3)])
        self.check(greatest_row, [2, 3, 1], size=3, commands=[(2, 3), (1, 2)])
        self.check(greatest_row, [3, 2, 1, 4], size=4, commands=[(1, 3)])
        self.check(greatest_row, [2, 1, 4, 3], size=4, commands=[(1, 2), (3, 4)])
        self.check(greatest_row, [4, 3, 2, 1], size=4, commands=[(1, 4)])

    def test_edges(self):
        self.check(greatest_row, [1], size=1, commands=[])
        self.check(greatest_row, [1], size=1, commands=[(1, 1)])
        self.check(greatest_row, [1, 2, 3], size=3, commands=[])
        self.check(greatest_row, [1, 2, 3], size=3, commands=[(1, 1), (3, 3)])
        self.check(greatest_row, [2, 1, 3], size=3, commands=[(1, 2), (1, 2)])
        self.check(greatest_row, SIXTY, size=60, commands=[])
        self.check(greatest_row, SIXTY[::-1], size=60, commands=[(1, 60)])

    def test_exactly_the_rows_that_are_at_most_it_get_sorted(self):
        for size in range(1, 5):
            for script in scripts_to_try(size):
                greatest = greatest_row(size, script)
                self.check(greatest_row, greatest, size=size, commands=script)
                for row in arrangements(size):
                    done = plain_run(row, script) == sorted(row)
                    self.assertEqual(plain_is_at_most(row, greatest), done)

    def test_five_places(self):
        source = source_of(41)
        for length in range(1, 9):
            script = random_short_script(source, 5, length, 3)
            greatest = greatest_row(5, script)
            done = [row for row in arrangements(5) if plain_run(row, script) == sorted(row)]
            self.assertEqual([row for row in arrangements(5) if plain_is_at_most(row, greatest)], done)

    def test_sixty_places_with_two_hundred_commands(self):
        source = source_of(42)
        for script in wide_scripts():
            greatest = greatest_row(60, script)
            self.check(greatest_row, greatest, size=60, commands=script)
            self.assertEqual(run(greatest, script), SIXTY)
            self.assertEqual(greatest_before(script, SIXTY), greatest)
            for row in lower_ones(source, greatest, 60):
                self.assertEqual(run(row, script), SIXTY)
            for row in next_greater_ones(greatest):
                self.assertNotEqual(run(row, script), SIXTY)
            for row in [random_arrangement(source, 60) for _ in range(5)]:
                self.assertEqual(is_at_most(row, greatest), run(row, script) == SIXTY)

    def test_what_is_returned_may_be_passed_on(self):
        script = exchanges(SIXTY)
        self.check(greatest_row, SIXTY[::-1], size=60, commands=script)

    def test_the_size_is_less_than_one(self):
        self.check_size_errors(greatest_row, commands=[])

    def test_the_first_wrong_command(self):
        self.check_script_errors(greatest_row, size=3)
        self.check_error(greatest_row, InvalidCommand, 1, size=1, commands=[(1, 1), (1, 2)])


class GreatestBeforeTest(CallTest):

    def test_home(self):
        self.check_home(greatest_before, HOME, ["commands", "row"])

    def test_ordinary_rows(self):
        self.check(greatest_before, [3, 2, 1], commands=[(1, 2), (2, 3)], row=[2, 1, 3])
        self.check(greatest_before, [3, 1, 2], commands=[(1, 2), (2, 3)], row=[1, 3, 2])
        self.check(greatest_before, [3, 2, 1, 4], commands=[(1, 3)], row=[2, 1, 3, 4])
        self.check(greatest_before, [4, 3, 2, 1], commands=[(1, 2), (3, 4)], row=[3, 4, 1, 2])

    def test_edges(self):
        self.check(greatest_before, [1], commands=[], row=[1])
        self.check(greatest_before, [1], commands=[(1, 1)], row=[1])
        self.check(greatest_before, [2, 3, 1], commands=[], row=[2, 3, 1])
        self.check(greatest_before, [2, 3, 1], commands=[(1, 1), (2, 2), (3, 3)], row=[2, 3, 1])
        self.check(greatest_before, [3, 2, 1], commands=[(1, 2), (1, 2)], row=[2, 3, 1])
        self.check(greatest_before, SIXTY[::-1], commands=[(2, 5)], row=SIXTY[::-1])
        self.check(greatest_before, SIXTY, commands=[], row=SIXTY)

    def test_exactly_the_arrangements_that_are_at_most_it_are_led_there(self):
        for size in range(1, 5):
            rows = arrangements(size)
            at_most = {
                (tuple(one), tuple(other)): plain_is_at_most(one, other)
                for one, other in itertools.product(rows, repeat=2)}
            for script in scripts_to_try(size):
                made = [tuple(plain_run(row, script)) for row in rows]
                for goal in rows:
                    greatest = greatest_before(script, goal)
                    self.check(greatest_before, greatest, commands=script, row=goal)
                    for row, end in zip(rows, made):
                        self.assertEqual(
                            at_most[tuple(row), tuple(greatest)], at_most[end, tuple(goal)])

    def test_sixty_places_with_two_hundred_commands(self):
        source = source_of(43)
        for script in wide_scripts():
            for goal in (random_arrangement(source, 60), SIXTY, SIXTY[::-1]):
                greatest = greatest_before(script, goal)
                self.check(greatest_before, greatest, commands=script, row=goal)
                self.assertTrue(is_at_most(run(greatest, script), goal))
                self.assertTrue(is_at_most(goal, greatest))
                for row in lower_ones(source, greatest, 20):
                    self.assertTrue(is_at_most(run(row, script), goal))
                for row in next_greater_ones(greatest):
                    self.assertFalse(is_at_most(run(row, script), goal))
                for row in [random_arrangement(source, 60) for _ in range(5)]:
                    self.assertEqual(is_at_most(row, greatest), is_at_most(run(row, script), goal))

    def test_step_by_step_it_is_the_same(self):
        source = source_of(44)
        for script in wide_scripts():
            goal = random_arrangement(source, 60)
            later = greatest_before(script[120:], goal)
            self.assertEqual(greatest_before(script[:120], later), greatest_before(script, goal))

    def test_the_row_is_wrong(self):
        for row, index in WRONG_ARRANGEMENTS:
            with self.subTest(row=row):
                self.check_error(greatest_before, InvalidRow, index, commands=[], row=row)

    def test_the_first_wrong_command(self):
        self.check_script_errors(greatest_before, commands=[], row=[2, 3, 1])
        self.check_error(greatest_before, InvalidCommand, 1, commands=[(1, 1), (1, 2)], row=[1])

    def test_the_row_is_checked_first(self):
        self.check_error(greatest_before, InvalidRow, 1, commands=[(0, 0)], row=[1, 1])
        self.check_error(greatest_before, InvalidRow, 2, commands=[(1, 4), (2, 1)], row=[1, 2, 5])


class GetsSortedAndWitnessTest(CallTest):
    """Both functions, the second of which tells why the first one says no."""

    FUNCTIONS = (gets_sorted, witness)

    def check_both(self, row, commands):
        """Check both answers against the running of the script."""
        made = plain_run(row, commands)
        done = all(made[i] <= made[i + 1] for i in range(len(made) - 1))
        self.check(gets_sorted, done, row=row, commands=commands)

        def check_answer(answer):
            if done:
                self.assertIsNone(answer)
                return
            self.assertIs(type(answer), int)
            bits = bits_of(row, answer)
            self.assertNotEqual(plain_run(bits, commands), sorted(bits))

        self.check_fits(witness, check_answer, row=row, commands=commands)

    def test_home(self):
        for function in self.FUNCTIONS:
            self.check_home(function, HOME, ["row", "commands"])

    def test_ordinary_rows(self):
        script = [(1, 2), (2, 3)]
        self.check(gets_sorted, False, row=[2, 3, 1], commands=script)
        self.check(gets_sorted, True, row=[3, 1, 2], commands=script)
        self.check(gets_sorted, True, row=[30, -10, 20], commands=script)
        self.check(gets_sorted, True, row=[2, 1, 4, 3], commands=[(1, 2), (3, 4)])
        self.check(gets_sorted, False, row=[1, 3, 2, 4], commands=[(1, 2), (3, 4)])
        self.check(witness, 1, row=[2, 3, 1], commands=script)
        self.check(witness, None, row=[3, 1, 2], commands=script)
        self.check(witness, 2, row=[1, 3, 2, 4], commands=[(1, 2), (3, 4)])
        self.check_both([20, 30, 10], script)
        self.check_both([9, 7, 8, 1, 2], [(1, 3), (2, 4)])

    def test_edges(self):
        for row in ([0], [1], [-5], [GREAT], [-GREAT]):
            for commands in ([], [(1, 1)]):
                self.check(gets_sorted, True, row=row, commands=commands)
                self.check(witness, None, row=row, commands=commands)
        self.check(gets_sorted, True, row=[5, 5, 5], commands=[])
        self.check(witness, None, row=[5, 5, 5], commands=[])
        self.check(gets_sorted, True, row=[1, 2, 3], commands=[])
        self.check(witness, None, row=[1, 2, 3], commands=[])
        self.check(gets_sorted, False, row=[2, 1], commands=[(1, 1), (2, 2)])
        self.check(witness, 1, row=[2, 1], commands=[(1, 1), (2, 2)])
        self.check(gets_sorted, True, row=[2, 1], commands=[(1, 2), (1, 2)])

    def test_equal_values(self):
        self.check(gets_sorted, True, row=[1, 1, 2, 2], commands=[])
        self.check(gets_sorted, True, row=[2, 1, 1, 2], commands=[(1, 3)])
        self.check(gets_sorted, False, row=[2, 2, 1, 1], commands=[(1, 3)])
        self.check_both([2, 2, 1, 1], [(1, 3)])
        self.check_both([0, 1, 1, 0], [(1, 3)])
        self.check_both([1, 0, 1, 0], [(1, 2), (3, 4)])

    def test_great_values(self):
        self.check(gets_sorted, True, row=[GREAT, -GREAT], commands=[(1, 2)])
        self.check(gets_sorted, False, row=[-GREAT, GREAT, GREAT - 1], commands=[(1, 2)])
        self.check(witness, GREAT - 1, row=[-GREAT, GREAT, GREAT - 1], commands=[(1, 2)])
        self.check(witness, -GREAT, row=[GREAT, -GREAT], commands=[])
        self.check(witness, None, row=[GREAT, -GREAT], commands=[(1, 2)])

    def test_all_rows_of_few_values(self):
        for size in range(1, 5):
            rows = arrangements(size)
            rows += [list(row) for row in itertools.product([-GREAT, 0, 1], repeat=size)]
            for script in scripts_to_try(size):
                for row in rows:
                    self.check_both(row, script)

    def test_sixty_places_with_two_hundred_commands(self):
        source = source_of(45)
        for script in wide_scripts():
            for values in ([0, 1], [-2, 0, 5], [-GREAT, GREAT], list(range(GREAT - 90, GREAT))):
                self.check_both([source.choice(values) for _ in range(60)], script)
            greatest = greatest_row(60, script)
            self.check_both(greatest, script)
            self.check_both(greatest[::-1], script)
            for row in next_greater_ones(greatest):
                self.check(gets_sorted, False, row=row, commands=script)
                self.check_both(row, script)

    def test_arrangements_that_are_at_most_the_greatest_one_get_sorted(self):
        source = source_of(46)
        for script in wide_scripts():
            greatest = greatest_row(60, script)
            for row in lower_ones(source, greatest, 20) + [random_arrangement(source, 60)]:
                self.check(gets_sorted, is_at_most(row, greatest), row=row, commands=script)

    def test_what_is_returned_may_be_passed_on(self):
        script = exchanges(SIXTY)
        self.check(gets_sorted, True, row=SIXTY[::-1], commands=script)
        self.check(gets_sorted, False, row=SIXTY[::-1], commands=script[:-1])
        self.check_both(SIXTY[::-1], script[:-1])

    def test_the_row_is_empty(self):
        for function in self.FUNCTIONS:
            for commands in ([], [(1, 1)], [(0, 0)], [(2, 1)]):
                self.check_error(function, InvalidSize, 0, row=[], commands=commands)

    def test_the_first_wrong_command(self):
        for function in self.FUNCTIONS:
            self.check_script_errors(function, row=[3, 2, 1])
            self.check_script_errors(function, row=[7, 7, 7])
            self.check_error(function, InvalidCommand, 1, row=[5], commands=[(1, 1), (1, 2)])


class IsResultTest(CallTest):

    def test_home(self):
        self.check_home(is_result, HOME, ["row", "commands"])

    def test_ordinary_rows(self):
        script = [(1, 2), (2, 3)]
        self.check(is_result, True, row=[2, 1, 3], commands=script)
        self.check(is_result, True, row=[1, 2, 3], commands=script)
        self.check(is_result, False, row=[1, 3, 2], commands=script)
        self.check(is_result, True, row=[1, 4, 2, 3], commands=[(1, 2), (3, 4)])
        self.check(is_result, False, row=[1, 4, 3, 2], commands=[(1, 2), (3, 4)])

    def test_a_row_that_ends_as_if_sorted_may_be_no_result(self):
        # The value 4 must leave the first three places, if it is there at all.
        self.check(is_result, False, row=[4, 1, 2, 3], commands=[(1, 3), (2, 4)])
        self.check(is_result, False, row=[3, 1, 2, 4], commands=[(1, 3), (2, 4)])
        self.check(is_result, True, row=[2, 1, 3, 4], commands=[(1, 3), (2, 4)])

    def test_edges(self):
        self.check(is_result, True, row=[1], commands=[])
        self.check(is_result, True, row=[1], commands=[(1, 1), (1, 1)])
        self.check(is_result, True, row=[3, 1, 2], commands=[])
        self.check(is_result, True, row=[3, 1, 2], commands=[(1, 1), (3, 3)])
        self.check(is_result, True, row=[1, 3, 2], commands=[(1, 2), (1, 2)])
        self.check(is_result, False, row=[3, 1, 2], commands=[(1, 2), (1, 2)])
        self.check(is_result, True, row=SIXTY[::-1], commands=[])
        self.check(is_result, False, row=SIXTY[::-1], commands=[(59, 60)])
        self.check(is_result, True, row=SIXTY, commands=[(59, 60), (1, 60)])

    def test_against_all_arrangements(self):
        for size in range(1, 5):
            rows = arrangements(size)
            for script in scripts_to_try(size):
                made = [plain_run(row, script) for row in rows]
                for row in rows:
                    self.check(is_result, row in made, row=row, commands=script)

    def test_five_places(self):
        source = source_of(47)
        rows = arrangements(5)
        scripts = [random_script(source, 5, length) for length in (2, 3, 4)]
        scripts += [random_short_script(source, 5, length, 2) for length in (3, 5, 7)]
        for script in scripts:
            made = [plain_run(row, script) for row in rows]
            for row in rows:
                self.check(is_result, row in made, row=row, commands=script)

    def test_sixty_places_with_two_hundred_commands(self):
        source = source_of(48)
        for script in wide_scripts():
            made = run(random_arrangement(source, 60), script)
            self.check(is_result, True, row=made, commands=script)
            self.check(is_result, True, row=run(SIXTY[::-1], script), commands=script)
            self.check(is_result, True, row=SIXTY, commands=script)
            self.check(is_result, True, row=made, commands=[])
            # Behind the last command its stretch ascends.
            i, j = max(script, key=lambda command: command[1] - command[0])
            further = script + [(i, j)]
            made = run(made, [(i, j)])
            self.check(is_result, True, row=made, commands=further)
            self.check(is_result, False, row=exchanged(made, i - 1, j - 1), commands=further)

    def test_one_command_of_sixty_places(self):
        source = source_of(49)
        for i, j in random_script(source, 60, 40):
            row = random_arrangement(source, 60)
            made = plain_run(row, [(i, j)])
            self.check(is_result, True, row=made, commands=[(i, j)] * 200)
            self.check(is_result, row == made, row=row, commands=[(i, j)] * 200)

    def test_the_row_is_wrong(self):
        self.check_arrangement_errors(is_result, "row", commands=[])

    def test_the_first_wrong_command(self):
        self.check_script_errors(is_result, row=[2, 3, 1])
        self.check_error(is_result, InvalidCommand, 1, row=[1], commands=[(1, 1), (1, 2)])

    def test_the_row_is_checked_first(self):
        self.check_error(is_result, InvalidRow, 1, row=[1, 1], commands=[(0, 0)])
        self.check_error(is_result, InvalidRow, 2, row=[1, 2, 5], commands=[(1, 4), (2, 1)])


if __name__ == "__main__":
    unittest.main()

"""Tests of sortstretches.effects (points 2, 4, 5, 7, 8 and 10)."""

import itertools
import unittest

from sortstretches.effects import effect, joined, powered, result
from sortstretches.errors import (
    InvalidCommand, InvalidNumber, InvalidRow, InvalidSize, UnequalSizes)
from tests.support import (
    GREAT, WRONG_ARRANGEMENTS, CallTest, arrangements, commands_for, plain_is_at_most, plain_run,
    random_arrangement, random_script, scripts_of_all_effects, source_of)

HOME = "sortstretches.effects"


def descending(size):
    """Return the arrangement that descends."""
    return list(range(size, 0, -1))


def ascending(size):
    """Return the arrangement that ascends."""
    return list(range(1, size + 1))


def plain_powered(size, commands, times):
    """Return the effect of a script that is run so many times."""
    return plain_run(descending(size), commands * times)


class EffectTest(CallTest):

    def test_home(self):
        self.check_home(effect, HOME, ["size", "commands"])

    def test_ordinary_scripts(self):
        self.check(effect, [2, 1, 3], size=3, commands=[(1, 2), (2, 3)])
        self.check(effect, [1, 3, 2], size=3, commands=[(2, 3), (1, 2)])
        self.check(effect, [3, 1, 2, 4], size=4, commands=[(1, 2), (2, 4)])
        self.check(effect, [1, 2, 3, 4], size=4, commands=[(1, 4)])

    def test_edges(self):
        self.check(effect, [1], size=1, commands=[])
        self.check(effect, [1], size=1, commands=[(1, 1)])
        self.check(effect, [3, 2, 1], size=3, commands=[])
        self.check(effect, [3, 2, 1], size=3, commands=[(3, 3), (1, 1), (2, 2)])

    def test_sixty_places_with_two_hundred_commands(self):
        source = source_of(11)
        for longest in (2, 8, 60):
            starts = [source.randint(1, 60) for _ in range(200)]
            commands = [(i, source.randint(i, min(60, i + longest - 1))) for i in starts]
            self.check(effect, plain_run(descending(60), commands), size=60, commands=commands)

    def test_equal_effects_tell_that_scripts_do_the_same(self):
        scripts = [list(pair) for pair in itertools.product(commands_for(3), repeat=2)]
        rows = [list(row) for row in itertools.product([0, 1, 2], repeat=3)]
        deeds = [[plain_run(row, script) for row in rows] for script in scripts]
        effects = [effect(3, script) for script in scripts]
        for first in range(len(scripts)):
            for second in range(first):
                self.assertEqual(effects[first] == effects[second], deeds[first] == deeds[second])

    def test_every_arrangement_is_an_effect(self):
        for size in range(1, 5):
            scripts = scripts_of_all_effects(size)
            self.assertEqual(sorted(list(row) for row in scripts), arrangements(size))
            for row, script in scripts.items():
                self.check(effect, list(row), size=size, commands=script)

    def test_the_size_is_less_than_one(self):
        self.check_error(effect, InvalidSize, 0, size=0, commands=[])
        self.check_error(effect, InvalidSize, -1, size=-1, commands=[])
        self.check_error(effect, InvalidSize, -GREAT, size=-GREAT, commands=[(1, 1)])

    def test_the_first_wrong_command(self):
        self.check_script_errors(effect, size=3)
        self.check_error(effect, InvalidCommand, 0, size=1, commands=[(1, 2)])

    def test_the_size_is_checked_first(self):
        self.check_error(effect, InvalidSize, -2, size=-2, commands=[(0, 0)])
        self.check_error(effect, InvalidSize, 0, size=0, commands=[(2, 1)])


class ResultTest(CallTest):

    def test_home(self):
        self.check_home(result, HOME, ["row", "wanted"])

    def test_ordinary_rows(self):
        self.check(result, [10, 20, 30], row=[30, 10, 20], wanted=[2, 1, 3])
        self.check(result, [2, 1, 3], row=[3, 2, 1], wanted=[2, 1, 3])
        self.check(result, [1, 2, 3], row=[2, 3, 1], wanted=[1, 2, 3])

    def test_edges(self):
        self.check(result, [-7], row=[-7], wanted=[1])
        self.check(result, [5, 9, 2, 9], row=[5, 9, 2, 9], wanted=[4, 3, 2, 1])
        self.check(result, [5, 5, 5], row=[5, 5, 5], wanted=[1, 3, 2])
        self.check(result, [-GREAT, 0, GREAT], row=[GREAT, -GREAT, 0], wanted=[1, 2, 3])

    def test_of_the_descending_arrangement_it_is_the_effect(self):
        for size in range(1, 5):
            for wanted in arrangements(size):
                self.check(result, wanted, row=descending(size), wanted=wanted)

    def test_every_effect_on_rows_of_any_values(self):
        for size in range(1, 5):
            rows = arrangements(size)
            rows += [list(row) for row in itertools.product([-GREAT, 3, GREAT], repeat=size)]
            for wanted, script in scripts_of_all_effects(size).items():
                for row in rows:
                    self.check(result, plain_run(row, script), row=row, wanted=list(wanted))

    def test_sixty_places_with_two_hundred_commands(self):
        source = source_of(12)
        for longest in (2, 5, 60):
            starts = [source.randint(1, 60) for _ in range(200)]
            commands = [(i, source.randint(i, min(60, i + longest - 1))) for i in starts]
            wanted = plain_run(descending(60), commands)
            for values in ([0, 1], [-2, 0, 5], [-GREAT, GREAT], list(range(-9, 60))):
                row = [source.choice(values) for _ in range(60)]
                self.check(result, plain_run(row, commands), row=row, wanted=wanted)

    def test_the_effect_is_wrong(self):
        for wanted, index in WRONG_ARRANGEMENTS:
            self.check_error(result, InvalidRow, index, row=[5] * len(wanted), wanted=wanted)

    def test_unequal_sizes(self):
        self.check_error(result, UnequalSizes, None, row=[1, 2], wanted=[1])
        self.check_error(result, UnequalSizes, None, row=[9], wanted=[2, 1])
        self.check_error(result, UnequalSizes, None, row=[], wanted=[1])

    def test_the_effect_is_checked_first(self):
        self.check_error(result, InvalidRow, 1, row=[1, 2, 3], wanted=[1, 1])
        self.check_error(result, InvalidRow, 0, row=[], wanted=[7])


class JoinedTest(CallTest):

    def test_home(self):
        self.check_home(joined, HOME, ["first", "second"])

    def test_ordinary_effects(self):
        self.check(joined, [1, 2, 3], first=[2, 1, 3], second=[2, 1, 3])
        self.check(joined, [2, 1, 3], first=[2, 3, 1], second=[3, 1, 2])
        self.check(joined, [1, 3, 2], first=[3, 1, 2], second=[2, 3, 1])

    def test_edges(self):
        self.check(joined, [1], first=[1], second=[1])
        self.check(joined, [2, 4, 1, 3], first=[2, 4, 1, 3], second=[4, 3, 2, 1])
        self.check(joined, [2, 4, 1, 3], first=[4, 3, 2, 1], second=[2, 4, 1, 3])
        self.check(joined, [1, 2, 3], first=[1, 2, 3], second=[3, 1, 2])

    def test_all_pairs_of_effects_against_the_running_of_both_scripts(self):
        for size in range(1, 5):
            scripts = scripts_of_all_effects(size)
            for first, second in itertools.product(scripts, repeat=2):
                wanted = plain_run(descending(size), scripts[first] + scripts[second])
                self.check(joined, wanted, first=list(first), second=list(second))

    def test_what_it_returns_does_what_both_scripts_do_to_any_row(self):
        scripts = scripts_of_all_effects(3)
        for first, second in itertools.product(scripts, repeat=2):
            both = joined(list(first), list(second))
            for row in itertools.product([-1, 0, 4], repeat=3):
                wanted = plain_run(list(row), scripts[first] + scripts[second])
                self.assertEqual(result(list(row), both), wanted)

    def test_sixty_places(self):
        source = source_of(13)
        first = random_script(source, 60, 30)
        second = [(i, i + 1) for i in (source.randint(1, 59) for _ in range(200))]
        for one, other in ((first, second), (second, first), (second, second)):
            self.check(
                joined, plain_run(descending(60), one + other),
                first=plain_run(descending(60), one), second=plain_run(descending(60), other))

    def test_the_first_one_is_wrong(self):
        self.check_arrangement_errors(joined, "first", second=[2, 1, 3])

    def test_the_second_one_is_wrong(self):
        for row, index in WRONG_ARRANGEMENTS:
            self.check_error(joined, InvalidRow, index, first=[2, 1, 3], second=row)

    def test_unequal_sizes(self):
        self.check_error(joined, UnequalSizes, None, first=[1], second=[2, 1])
        self.check_error(joined, UnequalSizes, None, first=[3, 1, 2], second=[1, 2])

    def test_the_order_of_the_errors(self):
        self.check_error(joined, InvalidRow, 2, first=[1, 2, 2], second=[2, 0, 1])
        self.check_error(joined, InvalidRow, 1, first=[1, 1], second=[0, 2, 3])
        self.check_error(joined, InvalidRow, 1, first=[1, 1], second=[1, 2, 3])
        self.check_error(joined, InvalidRow, 2, first=[1, 2], second=[1, 2, 5])


class PoweredTest(CallTest):

    def test_home(self):
        self.check_home(powered, HOME, ["wanted", "times"])

    def test_ordinary_effects(self):
        self.check(powered, [2, 1, 3], wanted=[2, 1, 3], times=1)
        self.check(powered, [1, 2, 3], wanted=[2, 1, 3], times=2)
        self.check(powered, [1, 2, 3], wanted=[2, 1, 3], times=10 ** 20)
        self.check(powered, [2, 3, 1], wanted=[2, 3, 1], times=5)

    def test_no_times_make_the_descending_arrangement(self):
        for size in range(1, 5):
            for wanted in arrangements(size):
                self.check(powered, descending(size), wanted=wanted, times=0)

    def test_one_place_and_the_empty_script(self):
        for times in (0, 1, 2, GREAT):
            self.check(powered, [1], wanted=[1], times=times)
            self.check(powered, [4, 3, 2, 1], wanted=[4, 3, 2, 1], times=times)

    def test_every_effect_against_the_running_of_the_rounds(self):
        for size in range(1, 5):
            for wanted, script in scripts_of_all_effects(size).items():
                for times in range(7):
                    told = plain_powered(size, script, times)
                    self.check(powered, told, wanted=list(wanted), times=times)
                # More rounds than there are inversions change nothing.
                told = plain_powered(size, script, 7)
                self.check(powered, told, wanted=list(wanted), times=GREAT)

    def test_what_it_returns_does_what_the_rounds_do_to_any_row(self):
        for wanted, script in scripts_of_all_effects(3).items():
            for times in range(4):
                made = powered(list(wanted), times)
                for row in itertools.product([-1, 0, 4], repeat=3):
                    self.assertEqual(result(list(row), made), plain_run(list(row), script * times))

    def test_sixty_places_that_become_sorted_slowly(self):
        script = [(i, i + 1) for i in range(1, 60)]
        wanted = plain_run(descending(60), script)
        for times in (0, 1, 2, 30, 58, 59, 60):
            self.check(powered, plain_powered(60, script, times), wanted=wanted, times=times)
        self.assertNotEqual(powered(wanted, 58), ascending(60))
        self.check(powered, ascending(60), wanted=wanted, times=59)
        self.check(powered, ascending(60), wanted=wanted, times=GREAT)

    def test_sixty_places_that_stay_unsorted(self):
        source = source_of(14)
        for _ in range(3):
            commands = [(i, i + 1) for i in (source.randint(1, 59) for _ in range(60))]
            wanted = plain_run(descending(60), commands)
            stable = plain_powered(60, commands, 60)
            self.check(powered, stable, wanted=wanted, times=60)
            self.check(powered, stable, wanted=wanted, times=GREAT)

    def test_more_times_never_sort_less(self):
        source = source_of(15)
        wanted = random_arrangement(source, 7)
        made = [powered(wanted, times) for times in range(30)]
        for earlier, later in zip(made, made[1:]):
            self.assertTrue(plain_is_at_most(later, earlier))

    def test_the_effect_is_wrong(self):
        self.check_arrangement_errors(powered, "wanted", times=2)
        self.check_arrangement_errors(powered, "wanted", times=0)

    def test_the_number_is_negative(self):
        self.check_error(powered, InvalidNumber, -1, wanted=[2, 1], times=-1)
        self.check_error(powered, InvalidNumber, -GREAT, wanted=[1], times=-GREAT)

    def test_the_effect_is_checked_first(self):
        self.check_error(powered, InvalidRow, 1, wanted=[1, 1], times=-1)


if __name__ == "__main__":
    unittest.main()

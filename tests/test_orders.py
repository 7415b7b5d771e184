"""Tests of sortstretches.orders (points 2, 4, 6, 7 and 8)."""

import itertools
import unittest

from sortstretches.effects import effect
from sortstretches.errors import InvalidCommand, InvalidSize
from sortstretches.orders import sorts_at_least_as_far, worst_distance, worst_inversions
from sortstretches.rows import inversions, is_at_most, run
from sortstretches.scripts import exchanges
from tests.support import (
    CallTest, arrangements, commands_for, plain_inversions, plain_is_at_most, plain_run,
    random_arrangement, random_script, random_short_script, scripts_of_all_effects,
    scripts_to_try, source_of, wide_scripts)

HOME = "sortstretches.orders"
UP = [(i, i + 1) for i in range(1, 60)]


def plain_distance(row):
    """Return the greatest distance of a value from its place in the ascending arrangement."""
    return max(abs(row.index(value) + 1 - value) for value in row)


class SortsAtLeastAsFarTest(CallTest):

    def test_home(self):
        self.check_home(sorts_at_least_as_far, HOME, ["size", "first", "second"])

    def test_ordinary_scripts(self):
        function = sorts_at_least_as_far
        self.check(function, True, size=3, first=[(1, 2), (2, 3)], second=[(2, 3)])
        self.check(function, False, size=3, first=[(2, 3)], second=[(1, 2), (2, 3)])
        self.check(function, True, size=4, first=[(1, 4)], second=[(1, 3), (2, 4)])
        self.check(function, False, size=4, first=[(1, 3), (2, 4)], second=[(1, 4)])
        self.check(function, True, size=3, first=[(1, 2), (2, 3), (1, 2)], second=[(1, 3)])

    def test_neither_sorts_as_far_as_the_other_one(self):
        function = sorts_at_least_as_far
        self.check(function, False, size=3, first=[(1, 2), (2, 3)], second=[(2, 3), (1, 2)])
        self.check(function, False, size=3, first=[(2, 3), (1, 2)], second=[(1, 2), (2, 3)])
        # The first one has by far more exchanges.
        self.check(function, False, size=5, first=[(1, 4)], second=[(4, 5)])

    def test_edges(self):
        function = sorts_at_least_as_far
        self.check(function, True, size=1, first=[], second=[])
        self.check(function, True, size=1, first=[], second=[(1, 1)])
        self.check(function, True, size=3, first=[], second=[])
        self.check(function, True, size=3, first=[], second=[(2, 2)])
        self.check(function, True, size=3, first=[(2, 2)], second=[])
        self.check(function, True, size=3, first=[(1, 2)], second=[(1, 2), (1, 2)])
        self.check(function, True, size=3, first=[(1, 2), (1, 2)], second=[(1, 2)])
        self.check(function, True, size=60, first=[(1, 2)], second=[])
        self.check(function, False, size=60, first=[], second=[(1, 2)])

    def test_against_all_arrangements(self):
        for size in range(1, 5):
            at_most = {
                (tuple(one), tuple(other)): plain_is_at_most(one, other)
                for one, other in itertools.product(arrangements(size), repeat=2)}
            scripts = scripts_to_try(size)
            results = [[tuple(plain_run(row, script)) for row in arrangements(size)] for script in scripts]
            for (first, made), (second, other) in itertools.product(zip(scripts, results), repeat=2):
                wanted = all(at_most[pair] for pair in zip(made, other))
                self.check(sorts_at_least_as_far, wanted, size=size, first=first, second=second)

    def test_all_pairs_of_commands_of_five_places(self):
        rows = arrangements(5)
        results = {command: [plain_run(row, [command]) for row in rows] for command in commands_for(5)}
        for first, second in itertools.product(results, repeat=2):
            wanted = all(
                plain_is_at_most(made, other) for made, other in zip(results[first], results[second]))
            self.check(sorts_at_least_as_far, wanted, size=5, first=[first], second=[second])

    def test_sixty_places_with_two_hundred_commands(self):
        scripts = wide_scripts()
        scripts += [script[:150] for script in scripts] + [[(1, 60)], [], UP]
        effects = [effect(60, script) for script in scripts]
        for (first, made), (second, other) in itertools.product(zip(scripts, effects), repeat=2):
            wanted = is_at_most(made, other)
            self.check(sorts_at_least_as_far, wanted, size=60, first=first, second=second)

    def test_longer_scripts_of_sixty_places_sort_at_least_as_far(self):
        source = source_of(31)
        for script in wide_scripts():
            for many in (0, 1, 50, 199):
                self.check(
                    sorts_at_least_as_far, True, size=60, first=script, second=script[:many])
                self.check(
                    sorts_at_least_as_far, True, size=60, first=script, second=script[many:])
                same = effect(60, script) == effect(60, script[:many])
                self.check(
                    sorts_at_least_as_far, same, size=60, first=script[:many], second=script)
                row = random_arrangement(source, 60)
                self.assertTrue(is_at_most(run(row, script), run(row, script[:many])))

    def test_what_is_returned_may_be_passed_on(self):
        script = exchanges(list(range(1, 61)))
        self.check(sorts_at_least_as_far, True, size=60, first=script, second=[(1, 60)])
        self.check(sorts_at_least_as_far, True, size=60, first=[(1, 60)], second=script)
        self.check(sorts_at_least_as_far, False, size=60, first=script[1:], second=script)

    def test_the_size_is_less_than_one(self):
        self.check_size_errors(sorts_at_least_as_far, first=[], second=[])

    def test_the_first_wrong_command(self):
        function = sorts_at_least_as_far
        self.check_script_errors(function, "first", size=3, first=[], second=[])
        self.check_script_errors(function, "second", size=3, first=[], second=[])
        self.check_script_errors(function, "second", size=3, first=[(1, 3)], second=[])
        self.check_error(function, InvalidCommand, 0, size=1, first=[(1, 2)], second=[])
        self.check_error(function, InvalidCommand, 1, size=1, first=[], second=[(1, 1), (1, 2)])

    def test_the_order_of_the_errors(self):
        function = sorts_at_least_as_far
        self.check_error(function, InvalidSize, 0, size=0, first=[(0, 0)], second=[(2, 1)])
        self.check_error(function, InvalidSize, -3, size=-3, first=[], second=[(2, 1)])
        self.check_error(function, InvalidCommand, 1, size=3, first=[(1, 2), (0, 1)], second=[(4, 4)])
        self.check_error(function, InvalidCommand, 0, size=3, first=[(1, 4)], second=[(1, 1), (0, 1)])


class WorstTest(CallTest):
    """The number of inversions and the distance, which are asked for in the same way."""

    FUNCTIONS = (worst_inversions, worst_distance)

    def check_worst(self, size, commands, most, farthest):
        """Check both answers."""
        self.check(worst_inversions, most, size=size, commands=commands)
        self.check(worst_distance, farthest, size=size, commands=commands)

    def test_home(self):
        for function in self.FUNCTIONS:
            self.check_home(function, HOME, ["size", "commands"])

    def test_ordinary_scripts(self):
        self.check_worst(4, [(1, 2), (3, 4)], 4, 2)
        self.check_worst(3, [(1, 2), (2, 3)], 1, 1)
        self.check_worst(4, [(1, 3)], 3, 3)
        self.check_worst(5, [(1, 3), (3, 5)], 4, 2)
        self.check_worst(4, [(1, 4)], 0, 0)

    def test_the_farthest_value_may_be_small_or_great(self):
        # The effects are 2 3 4 5 1 and 5 1 2 3 4, in which one value is far and the others are near.
        self.check_worst(5, [(1, 4)], 4, 4)
        self.check_worst(5, [(2, 5)], 4, 4)

    def test_edges(self):
        self.check_worst(1, [], 0, 0)
        self.check_worst(1, [(1, 1)], 0, 0)
        self.check_worst(2, [], 1, 1)
        self.check_worst(2, [(1, 1), (2, 2)], 1, 1)
        self.check_worst(2, [(1, 2), (1, 2)], 0, 0)
        self.check_worst(5, [], 10, 4)
        self.check_worst(60, [], 1770, 59)
        self.check_worst(60, [(1, 60)], 0, 0)
        self.check_worst(60, [(7, 7)] * 200, 1770, 59)
        self.check_worst(60, [(1, 30), (31, 60)] * 100, 900, 30)

    def check_against_all_arrangements(self, size, script):
        """Check both answers against the rows that the script makes of all arrangements."""
        made = [plain_run(row, script) for row in arrangements(size)]
        self.check_worst(
            size, script, max(map(plain_inversions, made)), max(map(plain_distance, made)))

    def test_against_all_arrangements(self):
        for size in range(1, 5):
            for script in scripts_to_try(size):
                self.check_against_all_arrangements(size, script)

    def test_every_effect_of_five_places(self):
        for script in scripts_of_all_effects(5).values():
            self.check_against_all_arrangements(5, script)

    def test_some_scripts_of_six_places(self):
        source = source_of(32)
        for length in range(1, 7):
            self.check_against_all_arrangements(6, random_script(source, 6, length))
            self.check_against_all_arrangements(6, random_short_script(source, 6, 2 * length, 2))

    def test_sixty_places_with_two_hundred_commands(self):
        source = source_of(33)
        for script in wide_scripts() + [UP, UP[::-1], UP * 3]:
            made = effect(60, script)
            self.check_worst(60, script, inversions(made), plain_distance(made))
            for _ in range(10):
                row = run(random_arrangement(source, 60), script)
                self.assertLessEqual(inversions(row), worst_inversions(60, script))
                self.assertLessEqual(plain_distance(row), worst_distance(60, script))

    def test_what_is_returned_may_be_passed_on(self):
        script = exchanges(list(range(1, 61)))
        self.check_worst(60, script, 0, 0)
        self.check_worst(60, script[:-1], 1, 1)

    def test_the_size_is_less_than_one(self):
        for function in self.FUNCTIONS:
            self.check_size_errors(function, commands=[])

    def test_the_first_wrong_command(self):
        for function in self.FUNCTIONS:
            self.check_script_errors(function, size=3)
            self.check_error(function, InvalidCommand, 1, size=1, commands=[(1, 1), (1, 2)])


if __name__ == "__main__":
    unittest.main()

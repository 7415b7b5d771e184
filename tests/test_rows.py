"""Tests of sortstretches.rows (points 2, 4, 5 and 8)."""

import itertools
import unittest

from sortstretches.errors import InvalidCommand, InvalidRow, InvalidSize, UnequalSizes
from sortstretches.rows import inversions, is_at_most, run, stages
from tests.support import (
    GREAT, WRONG_ARRANGEMENTS, CallTest, arrangements, commands_for, plain_is_at_most, plain_run,
    random_arrangement, random_script, scripts_of_all_effects, source_of)

HOME = "sortstretches.rows"


def all_stages(*arguments, **named):
    """Return the whole walk as a list."""
    return list(stages(*arguments, **named))


def first_stage(*arguments, **named):
    """Ask for the first row only."""
    return next(stages(*arguments, **named))


class RunTest(CallTest):

    def test_home(self):
        self.check_home(run, HOME, ["row", "commands"])

    def test_ordinary_rows(self):
        self.check(run, [3, 1, 2, 4], row=[4, 3, 2, 1], commands=[(1, 2), (2, 4)])
        self.check(run, [9, 2, 5, 7, 1], row=[9, 7, 2, 5, 1], commands=[(2, 4)])
        self.check(run, [1, 2, 3, 4], row=[2, 4, 1, 3], commands=[(1, 4)])

    def test_the_order_of_the_commands_counts(self):
        self.check(run, [2, 1, 3], row=[3, 2, 1], commands=[(1, 2), (2, 3)])
        self.check(run, [1, 3, 2], row=[3, 2, 1], commands=[(2, 3), (1, 2)])

    def test_one_place(self):
        self.check(run, [-5], row=[-5], commands=[])
        self.check(run, [-5], row=[-5], commands=[(1, 1), (1, 1)])

    def test_the_empty_script(self):
        self.check(run, [2, 3, 1], row=[2, 3, 1], commands=[])

    def test_commands_of_one_place_do_nothing(self):
        self.check(run, [3, 2, 1], row=[3, 2, 1], commands=[(1, 1), (2, 2), (3, 3)])

    def test_equal_negative_and_great_values(self):
        self.check(run, [0, 2, 2, 5], row=[2, 5, 0, 2], commands=[(1, 4)])
        self.check(run, [7, 7, 7], row=[7, 7, 7], commands=[(1, 2), (2, 3)])
        self.check(run, [-GREAT, -1, 0, GREAT], row=[GREAT, 0, -1, -GREAT], commands=[(1, 4)])
        self.check(run, [-GREAT, GREAT, 0], row=[GREAT, -GREAT, 0], commands=[(1, 2)])

    def test_sixty_places_with_two_hundred_commands(self):
        source = source_of(1)
        for _ in range(5):
            row = [source.randint(-GREAT, GREAT) for _ in range(60)]
            commands = random_script(source, 60, 200)
            self.check(run, plain_run(row, commands), row=row, commands=commands)

    def test_every_script_of_two_commands_for_four_places(self):
        for commands in itertools.product(commands_for(4), repeat=2):
            for row in ([4, 3, 2, 1], [2, 0, 2, -1], [3, 1, 4, 1]):
                self.check(run, plain_run(row, commands), row=row, commands=list(commands))

    def test_the_row_is_empty(self):
        self.check_error(run, InvalidSize, 0, row=[], commands=[])
        self.check_error(run, InvalidSize, 0, row=[], commands=[(0, 0)])
        self.check_error(run, InvalidSize, 0, row=[], commands=[(1, 1)])

    def test_the_first_wrong_command(self):
        self.check_script_errors(run, row=[3, 2, 1])
        self.check_error(run, InvalidCommand, 0, row=[5], commands=[(1, 2)])
        self.check_error(run, InvalidCommand, 1, row=[5], commands=[(1, 1), (2, 2)])


class StagesTest(CallTest):

    def test_home(self):
        self.check_home(stages, HOME, ["row", "commands"])

    def test_ordinary_rows(self):
        self.check(
            all_stages, [[3, 1, 2], [3, 1, 2], [1, 3, 2]], row=[3, 1, 2], commands=[(2, 3), (1, 2)])
        self.check(
            all_stages, [[4, 3, 2, 1], [3, 4, 2, 1], [3, 1, 2, 4], [1, 2, 3, 4]],
            row=[4, 3, 2, 1], commands=[(1, 2), (2, 4), (1, 4)])

    def test_edges(self):
        self.check(all_stages, [[8]], row=[8], commands=[])
        self.check(all_stages, [[8], [8]], row=[8], commands=[(1, 1)])
        self.check(all_stages, [[2, 1]], row=[2, 1], commands=[])
        self.check(all_stages, [[2, 1], [2, 1], [2, 1]], row=[2, 1], commands=[(1, 1), (2, 2)])
        self.check(
            all_stages, [[GREAT, 0, 0, -GREAT], [0, 0, GREAT, -GREAT]],
            row=[GREAT, 0, 0, -GREAT], commands=[(1, 3)])

    def test_sixty_places_with_two_hundred_commands(self):
        source = source_of(2)
        row = [source.randint(-GREAT, GREAT) for _ in range(60)]
        commands = random_script(source, 60, 200)
        wanted = [plain_run(row, commands[:many]) for many in range(201)]
        self.check(all_stages, wanted, row=row, commands=commands)

    def test_each_row_is_new(self):
        row = [4, 3, 2, 1]
        commands = [(3, 4), (1, 1), (2, 4), (1, 4)]
        told = []
        for present in stages(row, commands):
            told.append(list(present))
            present.append(0)
            present[0] = 99
        self.assertEqual(
            told, [[4, 3, 2, 1], [4, 3, 1, 2], [4, 3, 1, 2], [4, 1, 2, 3], [1, 2, 3, 4]])
        self.assertEqual(row, [4, 3, 2, 1])
        self.assertEqual(commands, [(3, 4), (1, 1), (2, 4), (1, 4)])

    def test_rows_that_are_kept_do_not_change(self):
        kept = list(stages([3, 2, 1], [(1, 2), (2, 2), (2, 3), (1, 2)]))
        self.assertEqual(kept, [[3, 2, 1], [2, 3, 1], [2, 3, 1], [2, 1, 3], [1, 2, 3]])
        self.assertEqual(len({id(row) for row in kept}), 5)

    def test_several_walks_at_once(self):
        row = [4, 3, 2, 1]
        commands = [(1, 2), (3, 4), (1, 4)]
        wanted = [[4, 3, 2, 1], [3, 4, 2, 1], [3, 4, 1, 2], [1, 2, 3, 4]]
        first = stages(row, commands)
        self.assertEqual(next(first), wanted[0])
        self.assertEqual(next(first), wanted[1])
        second = stages(row, commands)
        other = stages([2, 1, 0], [(2, 3)])
        self.assertEqual(next(second), wanted[0])
        self.assertEqual(next(other), [2, 1, 0])
        self.assertEqual(next(first), wanted[2])
        self.assertEqual(next(second), wanted[1])
        self.assertEqual(list(other), [[2, 0, 1]])
        self.assertEqual(list(second), wanted[2:])
        self.assertEqual(list(first), wanted[3:])

    def test_a_walk_may_stop_early(self):
        row = [3, 2, 1]
        commands = [(1, 2), (2, 3)]
        walk = stages(row, commands)
        next(walk)
        walk.close()
        other = stages(row, commands)
        next(other)
        self.assertEqual([row, commands], [[3, 2, 1], [(1, 2), (2, 3)]])
        self.assertEqual(list(stages(row, commands)), [[3, 2, 1], [2, 3, 1], [2, 1, 3]])

    def test_a_walk_yields_one_row_at_a_time(self):
        walk = stages([2, 1], [(1, 2)])
        self.assertIs(iter(walk), walk)
        self.assertEqual([next(walk), next(walk)], [[2, 1], [1, 2]])
        self.assertRaises(StopIteration, next, walk)

    def test_errors_before_the_first_row(self):
        self.check_error(first_stage, InvalidSize, 0, row=[], commands=[])
        self.check_error(first_stage, InvalidSize, 0, row=[], commands=[(0, 0)])
        self.check_script_errors(first_stage, row=[3, 2, 1])
        self.check_error(first_stage, InvalidCommand, 1, row=[5], commands=[(1, 1), (1, 2)])


class IsAtMostTest(CallTest):

    def test_home(self):
        self.check_home(is_at_most, HOME, ["first", "second"])

    def test_ordinary_arrangements(self):
        self.check(is_at_most, True, first=[1, 3, 2], second=[3, 1, 2])
        self.check(is_at_most, False, first=[3, 1, 2], second=[1, 3, 2])
        self.check(is_at_most, False, first=[2, 3, 1], second=[3, 1, 2])
        self.check(is_at_most, False, first=[3, 1, 2], second=[2, 3, 1])

    def test_fewer_inversions_do_not_suffice(self):
        self.check(is_at_most, False, first=[2, 1, 3, 4], second=[1, 4, 3, 2])

    def test_one_place(self):
        self.check(is_at_most, True, first=[1], second=[1])

    def test_all_pairs_of_small_sizes(self):
        for size in range(1, 5):
            for first, second in itertools.product(arrangements(size), repeat=2):
                self.check(is_at_most, plain_is_at_most(first, second), first=first, second=second)

    def test_the_ascending_and_the_descending_arrangement(self):
        for size in (1, 2, 3, 4, 5, 60):
            up = list(range(1, size + 1))
            down = up[::-1]
            rows = arrangements(size) if size < 6 else [random_arrangement(source_of(3), size)]
            for row in rows:
                self.check(is_at_most, True, first=up, second=row)
                self.check(is_at_most, True, first=row, second=down)
                self.check(is_at_most, True, first=row, second=row)
                self.check(is_at_most, row == up, first=row, second=up)
                self.check(is_at_most, row == down, first=down, second=row)

    def test_sixty_places(self):
        source = source_of(4)
        for _ in range(10):
            low = random_arrangement(source, 60)
            high = list(low)
            places = sorted(source.sample(range(60), 2))
            # An exchange that makes an inversion makes the arrangement greater.
            if low[places[0]] > low[places[1]]:
                low[places[0]], low[places[1]] = low[places[1]], low[places[0]]
            else:
                high[places[0]], high[places[1]] = high[places[1]], high[places[0]]
            self.check(is_at_most, True, first=low, second=high)
            self.check(is_at_most, False, first=high, second=low)
            other = random_arrangement(source, 60)
            self.check(is_at_most, plain_is_at_most(low, other), first=low, second=other)

    def test_it_tells_which_script_sorts_at_least_as_far(self):
        scripts = scripts_of_all_effects(3)
        rows = arrangements(3)
        for first, second in itertools.product(scripts, repeat=2):
            further = all(
                plain_is_at_most(plain_run(row, scripts[first]), plain_run(row, scripts[second]))
                for row in rows)
            self.check(is_at_most, further, first=list(first), second=list(second))

    def test_the_first_one_is_wrong(self):
        self.check_arrangement_errors(is_at_most, "first", second=[2, 1, 3])

    def test_the_second_one_is_wrong(self):
        for row, index in WRONG_ARRANGEMENTS:
            self.check_error(is_at_most, InvalidRow, index, first=[2, 1, 3], second=row)

    def test_unequal_sizes(self):
        self.check_error(is_at_most, UnequalSizes, None, first=[1], second=[1, 2])
        self.check_error(is_at_most, UnequalSizes, None, first=[3, 1, 2], second=[2, 1])
        self.check_error(is_at_most, UnequalSizes, None, first=[3, 1, 2], second=[3, 1, 2, 4])

    def test_the_order_of_the_errors(self):
        self.check_error(is_at_most, InvalidRow, 2, first=[1, 2, 2], second=[2, 0, 1])
        self.check_error(is_at_most, InvalidRow, 1, first=[1, 1], second=[0, 2, 3])
        self.check_error(is_at_most, InvalidRow, 1, first=[1, 1], second=[1, 2, 3])
        self.check_error(is_at_most, InvalidRow, 2, first=[1, 2], second=[1, 2, 5])


class InversionsTest(CallTest):

    def test_home(self):
        self.check_home(inversions, HOME, ["row"])

    def test_ordinary_rows(self):
        self.check(inversions, 6, row=[4, 3, 2, 1])
        self.check(inversions, 0, row=[1, 2, 3, 4])
        self.check(inversions, 3, row=[2, 4, 1, 3])
        self.check(inversions, 2, row=[30, 10, 20])

    def test_the_empty_row_and_one_place(self):
        self.check(inversions, 0, row=[])
        self.check(inversions, 0, row=[9])

    def test_equal_negative_and_great_values(self):
        self.check(inversions, 0, row=[5, 5, 5])
        self.check(inversions, 3, row=[1, 0, 1, 0])
        self.check(inversions, 1, row=[-1, -2])
        self.check(inversions, 3, row=[GREAT, 0, -GREAT])
        self.check(inversions, 1, row=[-GREAT, GREAT, GREAT - 1])

    def test_sixty_places(self):
        self.check(inversions, 1770, row=list(range(60, 0, -1)))
        self.check(inversions, 900, row=[1] * 30 + [0] * 30)

    def test_all_rows_of_three_values(self):
        for row in itertools.product([-1, 0, 7], repeat=4):
            wanted = len([1 for i, j in itertools.combinations(range(4), 2) if row[i] > row[j]])
            self.check(inversions, wanted, row=list(row))


if __name__ == "__main__":
    unittest.main()

"""Tests of sortstretches.counting (points 2, 4, 5, 6 and 9)."""

import copy
import itertools
import math
import unittest

from sortstretches.backward import gets_sorted, is_result
from sortstretches.counting import count_sorted, count_sorted_bits, nth_sorted_bits, results
from sortstretches.errors import InvalidCommand, InvalidNumber, InvalidSize, SortError
from sortstretches.scripts import exchanges
from tests.support import (
    GREAT, WRONG_SCRIPTS_OF_THREE, CallTest, arrangements, plain_run, random_script,
    random_short_script, scripts_to_try, source_of, wide_scripts)

HOME = "sortstretches.counting"
SIXTY = list(range(1, 61))


def bit_rows(size, zeros):
    """Return all bit rows with so many zeros, ascending."""
    return sorted(
        [0 if place in held else 1 for place in range(size)]
        for held in itertools.combinations(range(size), zeros))


def plain_sorted_bits(size, commands, zeros):
    """Return the bit rows with so many zeros that get sorted, ascending."""
    return [row for row in bit_rows(size, zeros) if plain_run(row, commands) == sorted(row)]


def plain_count_sorted(size, commands):
    """Count the arrangements that get sorted."""
    return len([row for row in arrangements(size) if plain_run(row, commands) == sorted(row)])


def plain_results(size, commands):
    """Return all that a script makes of arrangements, each once, ascending."""
    return [list(row) for row in sorted({tuple(plain_run(row, commands)) for row in arrangements(size)})]


def next_bits(row):
    """Return the bit row behind one, of those with as many zeros, or None if it is the last one."""
    for place in range(len(row) - 2, -1, -1):
        if row[place:place + 2] == [0, 1]:
            return row[:place] + [1, 0] + sorted(row[place + 2:])
    return None


def all_results(size, commands):
    """Return all rows of a walk."""
    return list(results(size, commands))


def first_result(size, commands):
    """Return the first row of a walk, or raise what the call or the first row raises."""
    return next(iter(results(size, commands)))


class SortedBitsTest(CallTest):

    def check_all(self, size, script):
        """Check both functions for all bit rows of a size."""
        for zeros in range(size + 1):
            rows = plain_sorted_bits(size, script, zeros)
            self.check(count_sorted_bits, len(rows), size=size, commands=script, zeros=zeros)
            for number, row in enumerate(rows):
                self.check(
                    nth_sorted_bits, row, size=size, commands=script, zeros=zeros, number=number)
            for number in (-1, len(rows)):
                self.check_error(
                    nth_sorted_bits, InvalidNumber, number,
                    size=size, commands=script, zeros=zeros, number=number)

    def test_homes(self):
        self.check_home(count_sorted_bits, HOME, ["size", "commands", "zeros"])
        self.check_home(nth_sorted_bits, HOME, ["size", "commands", "zeros", "number"])

    def test_ordinary_scripts(self):
        script = [(1, 2), (2, 3)]
        for zeros, told in enumerate([1, 2, 3, 1]):
            self.check(count_sorted_bits, told, size=3, commands=script, zeros=zeros)
        self.check(nth_sorted_bits, [0, 1, 1], size=3, commands=script, zeros=1, number=0)
        self.check(nth_sorted_bits, [1, 0, 1], size=3, commands=script, zeros=1, number=1)
        self.check(nth_sorted_bits, [1, 0, 0], size=3, commands=script, zeros=2, number=2)

    def test_all_zeros_and_no_zeros(self):
        for script in ([], [(1, 1)], [(1, 4)], [(2, 3), (1, 2)]):
            for zeros, row in ((0, [1, 1, 1, 1]), (4, [0, 0, 0, 0])):
                self.check(count_sorted_bits, 1, size=4, commands=script, zeros=zeros)
                self.check(nth_sorted_bits, row, size=4, commands=script, zeros=zeros, number=0)
                self.check_error(
                    nth_sorted_bits, InvalidNumber, 1, size=4, commands=script, zeros=zeros, number=1)
        self.check(count_sorted_bits, 1, size=60, commands=[], zeros=0)
        self.check(nth_sorted_bits, [0] * 60, size=60, commands=[(1, 60)], zeros=60, number=0)
        self.check(nth_sorted_bits, [1] * 60, size=60, commands=[(1, 60)], zeros=0, number=0)

    def test_one_place(self):
        for script in ([], [(1, 1)]):
            self.check_all(1, script)

    def test_nothing_but_the_sorted_rows_get_sorted_by_no_commands(self):
        for zeros in range(61):
            row = [0] * zeros + [1] * (60 - zeros)
            for script in ([], [(7, 7)]):
                self.check(count_sorted_bits, 1, size=60, commands=script, zeros=zeros)
                self.check(nth_sorted_bits, row, size=60, commands=script, zeros=zeros, number=0)

    def test_against_all_bit_rows(self):
        for size in range(1, 5):
            for script in scripts_to_try(size):
                self.check_all(size, script)

    def test_drawn_scripts_against_all_bit_rows(self):
        source = source_of(81)
        for size in (5, 6, 7):
            for length in range(1, 13, 2):
                self.check_all(size, random_short_script(source, size, length, 3))
                self.check_all(size, random_script(source, size, length))

    def test_more_places_against_all_bit_rows(self):
        source = source_of(82)
        for length in (10, 20, 40):
            script = random_short_script(source, 12, length, 3)
            for zeros in (1, 4, 6, 9, 11):
                rows = plain_sorted_bits(12, script, zeros)
                self.check(count_sorted_bits, len(rows), size=12, commands=script, zeros=zeros)
                told = [nth_sorted_bits(12, script, zeros, number) for number in range(len(rows))]
                self.assertEqual(told, rows)

    def test_a_script_that_sorts_every_row(self):
        halves = bit_rows(12, 6)
        for number in (0, 1, 500, 923):
            self.check(
                nth_sorted_bits, halves[number], size=12, commands=[(1, 12)], zeros=6, number=number)
        for zeros in (0, 1, 29, 30, 31, 59, 60):
            many = math.comb(60, zeros)
            self.check(count_sorted_bits, many, size=60, commands=[(1, 60)], zeros=zeros)
            last = [1] * (60 - zeros) + [0] * zeros
            self.check(
                nth_sorted_bits, last, size=60, commands=[(1, 60)], zeros=zeros, number=many - 1)

    def test_sixty_places_with_two_hundred_commands(self):
        for script in wide_scripts():
            for zeros in (1, 2, 30, 58, 59):
                many = count_sorted_bits(60, script, zeros)
                self.check(count_sorted_bits, many, size=60, commands=script, zeros=zeros)
                found = []
                row = [0] * zeros + [1] * (60 - zeros)
                for _ in range(60):
                    if row is not None:
                        if gets_sorted(row, script):
                            found.append(row)
                        row = next_bits(row)
                for number, told in enumerate(found):
                    self.assertEqual(nth_sorted_bits(60, script, zeros, number), told)
                if row is None:
                    self.assertEqual(many, len(found))
                numbers = sorted({0, many // 7, many // 2, many - many // 5 - 1, many - 1})
                rows = [nth_sorted_bits(60, script, zeros, number) for number in numbers]
                self.assertEqual(rows, sorted(rows))
                for number, told in zip(numbers, rows):
                    self.check(
                        nth_sorted_bits, told, size=60, commands=script, zeros=zeros, number=number)
                    self.assertEqual([told.count(0), told.count(1)], [zeros, 60 - zeros])
                    self.assertTrue(gets_sorted(told, script))
                for number in (-1, -GREAT, many, many + 1, many + GREAT):
                    self.check_error(
                        nth_sorted_bits, InvalidNumber, number,
                        size=60, commands=script, zeros=zeros, number=number)

    def test_one_zero_or_one_one_of_sixty_places(self):
        for script in wide_scripts():
            for zeros in (1, 59):
                rows = plain_sorted_bits(60, script, zeros)
                self.check(count_sorted_bits, len(rows), size=60, commands=script, zeros=zeros)
                for number, row in enumerate(rows):
                    self.assertEqual(nth_sorted_bits(60, script, zeros, number), row)

    def test_what_is_returned_may_be_passed_on(self):
        script = exchanges(SIXTY)
        many = count_sorted_bits(60, script, 30)
        self.check(count_sorted_bits, math.comb(60, 30), size=60, commands=script, zeros=30)
        last = [1] * 30 + [0] * 30
        self.check(nth_sorted_bits, last, size=60, commands=script, zeros=30, number=many - 1)

    def test_the_size_is_less_than_one(self):
        for zeros in (0, -1, 7):
            self.check_size_errors(count_sorted_bits, commands=[], zeros=zeros)
            self.check_size_errors(nth_sorted_bits, commands=[], zeros=zeros, number=-1)

    def test_the_first_wrong_command(self):
        for zeros in (0, -1, 4):
            self.check_script_errors(count_sorted_bits, size=3, commands=[], zeros=zeros)
            self.check_script_errors(nth_sorted_bits, size=3, commands=[], zeros=zeros, number=-1)

    def test_there_are_no_so_many_zeros(self):
        for zeros in (-1, -GREAT, 4, 5, GREAT):
            for script in ([], [(1, 3)]):
                self.check_error(
                    count_sorted_bits, InvalidNumber, zeros, size=3, commands=script, zeros=zeros)
                for number in (0, -7, GREAT):
                    self.check_error(
                        nth_sorted_bits, InvalidNumber, zeros,
                        size=3, commands=script, zeros=zeros, number=number)
        self.check_error(count_sorted_bits, InvalidNumber, 61, size=60, commands=[], zeros=61)

    def test_there_is_no_such_number(self):
        for number in (-1, -GREAT, 3, 4, GREAT):
            self.check_error(
                nth_sorted_bits, InvalidNumber, number, size=3, commands=[(1, 3)], zeros=2, number=number)
        for number in (-1, 1, 2):
            self.check_error(
                nth_sorted_bits, InvalidNumber, number, size=1, commands=[], zeros=1, number=number)

    def test_the_order_of_the_errors(self):
        self.check_error(
            nth_sorted_bits, InvalidSize, 0, size=0, commands=[(1, 1)], zeros=-1, number=-1)
        self.check_error(
            nth_sorted_bits, InvalidCommand, 1, size=1, commands=[(1, 1), (1, 2)], zeros=-1, number=-1)
        self.check_error(count_sorted_bits, InvalidSize, -2, size=-2, commands=[], zeros=-1)
        self.check_error(count_sorted_bits, InvalidCommand, 0, size=1, commands=[(2, 1)], zeros=2)


class CountSortedTest(CallTest):

    def test_home(self):
        self.check_home(count_sorted, HOME, ["size", "commands"])

    def test_ordinary_scripts(self):
        self.check(count_sorted, 4, size=3, commands=[(1, 2), (2, 3)])
        self.check(count_sorted, 2, size=3, commands=[(1, 2)])
        self.check(count_sorted, 4, size=4, commands=[(1, 2), (3, 4)])
        self.check(count_sorted, 18, size=4, commands=[(1, 3), (2, 4)])

    def test_edges(self):
        self.check(count_sorted, 1, size=1, commands=[])
        self.check(count_sorted, 1, size=1, commands=[(1, 1)])
        for size in range(1, 9):
            self.check(count_sorted, 1, size=size, commands=[])
            self.check(count_sorted, 1, size=size, commands=[(size, size)])
            self.check(count_sorted, math.factorial(size), size=size, commands=[(1, size)])

    def test_against_all_arrangements(self):
        for size in range(1, 5):
            for script in scripts_to_try(size):
                told = plain_count_sorted(size, script)
                self.check(count_sorted, told, size=size, commands=script)

    def test_drawn_scripts_against_all_arrangements(self):
        source = source_of(83)
        for size, lengths in ((5, range(1, 13)), (6, (2, 5, 9)), (7, (6, 12))):
            for length in lengths:
                script = random_short_script(source, size, length, 3)
                told = plain_count_sorted(size, script)
                self.check(count_sorted, told, size=size, commands=script)

    def test_eight_places(self):
        source = source_of(84)
        for length, longest in ((9, 4), (14, 3)):
            script = random_short_script(source, 8, length, longest)
            self.check(count_sorted, plain_count_sorted(8, script), size=8, commands=script)
        script = random_script(source, 8, 200)
        self.check(count_sorted, 40320, size=8, commands=script)
        self.check(count_sorted, 2 ** 7, size=8, commands=[(i, i + 1) for i in range(1, 8)])

    def test_somewhat_more_places(self):
        self.check(count_sorted, math.factorial(10), size=10, commands=[(1, 10)])
        self.check(count_sorted, 2 ** 9, size=10, commands=[(i, i + 1) for i in range(9, 0, -1)])

    def test_what_is_returned_may_be_passed_on(self):
        self.check(count_sorted, 40320, size=8, commands=exchanges(SIXTY[:8]))

    def test_the_size_is_less_than_one(self):
        self.check_size_errors(count_sorted, commands=[])

    def test_the_first_wrong_command(self):
        self.check_script_errors(count_sorted, size=3)


class ResultsTest(CallTest):

    def test_home(self):
        self.check_home(results, HOME, ["size", "commands"])

    def test_ordinary_scripts(self):
        self.check(all_results, [[1, 2, 3], [2, 1, 3]], size=3, commands=[(1, 2), (2, 3)])
        self.check(all_results, [[1, 2, 3], [1, 3, 2], [2, 3, 1]], size=3, commands=[(1, 2)])
        self.check(
            all_results, [[1, 2, 3, 4], [1, 3, 2, 4], [1, 4, 2, 3]], size=4, commands=[(2, 4), (1, 2)])

    def test_edges(self):
        self.check(all_results, [[1]], size=1, commands=[])
        self.check(all_results, [[1]], size=1, commands=[(1, 1)])
        for size in range(1, 6):
            self.check(all_results, arrangements(size), size=size, commands=[])
            self.check(all_results, arrangements(size), size=size, commands=[(size, size)])
            self.check(all_results, [SIXTY[:size]], size=size, commands=[(1, size)])

    def test_against_all_arrangements(self):
        for size in range(1, 5):
            for script in scripts_to_try(size):
                self.check(all_results, plain_results(size, script), size=size, commands=script)

    def test_drawn_scripts_against_all_arrangements(self):
        source = source_of(85)
        for size, lengths in ((5, range(1, 13)), (6, (2, 5, 9))):
            for length in lengths:
                script = random_short_script(source, size, length, 3)
                told = plain_results(size, script)
                self.check(all_results, told, size=size, commands=script)
                self.assertEqual(told, [row for row in arrangements(size) if is_result(row, script)])

    def test_seven_places(self):
        source = source_of(86)
        script = random_short_script(source, 7, 6, 3)
        self.check(all_results, plain_results(7, script), size=7, commands=script)
        self.assertEqual(all_results(7, []), arrangements(7))
        script = random_script(source, 7, 200)
        self.check(all_results, [SIXTY[:7]], size=7, commands=script)

    def test_each_row_is_new(self):
        told = []
        script = [(2, 3)]
        for row in results(4, script):
            told.append(list(row))
            row[0] = 99
            row.append(0)
        self.assertEqual(told, plain_results(4, script))
        self.assertEqual(script, [(2, 3)])
        self.assertEqual(all_results(4, script), told)

    def test_rows_that_are_kept_do_not_change(self):
        kept = list(results(3, []))
        self.assertEqual(kept, arrangements(3))
        self.assertEqual(len({id(row) for row in kept}), 6)

    def test_several_walks_at_once(self):
        script = [(1, 2), (2, 3)]
        first = results(3, script)
        self.assertEqual(next(first), [1, 2, 3])
        second = results(3, script)
        other = results(3, [(2, 3)])
        self.assertEqual([next(other), next(second), next(first)], [[1, 2, 3], [1, 2, 3], [2, 1, 3]])
        self.assertEqual(list(other), [[2, 1, 3], [3, 1, 2]])
        self.assertEqual(list(first), [])
        self.assertEqual(list(second), [[2, 1, 3]])
        self.assertEqual(script, [(1, 2), (2, 3)])

    def test_a_walk_may_stop_early(self):
        script = [(1, 2)]
        walk = results(7, script)
        self.assertEqual(next(walk), SIXTY[:7])
        walk.close()
        self.assertEqual(list(walk), [])
        self.assertEqual(list(itertools.islice(results(3, script), 2)), [[1, 2, 3], [1, 3, 2]])
        self.assertEqual(all_results(3, script), [[1, 2, 3], [1, 3, 2], [2, 3, 1]])

    def test_the_first_row_comes_at_once(self):
        # So many places that a walk to its end would not come back.
        walk = results(20, [(1, 20)])
        self.assertEqual(next(walk), SIXTY[:20])
        walk = results(20, [(5, 6)])
        self.assertEqual([next(walk), next(walk)], [SIXTY[:20], SIXTY[:18] + [20, 19]])

    def test_the_size_is_less_than_one(self):
        for function in (first_result, all_results):
            self.check_size_errors(function, commands=[])

    def test_the_first_wrong_command(self):
        for function in (first_result, all_results):
            self.check_script_errors(function, size=3)

    def test_nothing_is_changed_by_an_error(self):
        for commands, _ in WRONG_SCRIPTS_OF_THREE:
            before = copy.deepcopy(commands)
            with self.assertRaises(SortError):
                first_result(3, commands)
            self.assertEqual(commands, before)


if __name__ == "__main__":
    unittest.main()

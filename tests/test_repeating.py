"""Tests of sortstretches.repeating (points 2, 4, 5 and 10)."""

import itertools
import math
import unittest

from sortstretches.backward import greatest_row
from sortstretches.effects import powered
from sortstretches.errors import InvalidCommand, InvalidNumber, InvalidRow, InvalidSize
from sortstretches.repeating import (
    blocks, count_unchanged, nth_unchanged, rounds, turns, unchanged_number)
from sortstretches.scripts import exchanges
from tests.support import (
    GREAT, WRONG_ARRANGEMENTS, WRONG_SCRIPTS_OF_THREE, CallTest, arrangements, plain_run,
    random_arrangement, random_short_script, scripts_to_try, source_of, wide_scripts)

HOME = "sortstretches.repeating"
SIXTY = list(range(1, 61))
UP = [(i, i + 1) for i in range(1, 60)]


def plain_rounds(size, commands):
    """Count the rounds after which one more changes no arrangement."""
    rows = arrangements(size)
    many = 0
    while True:
        further = [plain_run(row, commands) for row in rows]
        if further == rows:
            return many
        rows = further
        many += 1


def plain_blocks(size, commands):
    """Return the blocks as the document words them."""
    found = [[1]]
    for place in range(2, size + 1):
        if any(i <= place - 1 and place <= j for i, j in commands):
            found[-1].append(place)
        else:
            found.append([place])
    return [(block[0], block[-1]) for block in found]


def plain_unchanged(size, commands):
    """Return the arrangements that a script does not change, ascending."""
    return [row for row in arrangements(size) if plain_run(row, commands) == row]


def plain_turns(alone, shared, other):
    """Run the two stretches by turns until every bit row of all their places is sorted."""
    size = alone + shared + other
    stretches = [(1, alone + shared), (alone + 1, size)]
    rows = [list(row) for row in itertools.product([0, 1], repeat=size)]
    many = 0
    while any(row != sorted(row) for row in rows):
        rows = [plain_run(row, [stretches[many & 1]]) for row in rows]
        many += 1
    return many


def turns_of_descending(alone, shared, other):
    """Run the two stretches by turns until the descending arrangement is sorted."""
    size = alone + shared + other
    stretches = [(1, alone + shared), (alone + 1, size)]
    row = list(range(size, 0, -1))
    many = 0
    while row != sorted(row):
        row = plain_run(row, [stretches[many & 1]])
        many += 1
    return many


class RoundsTest(CallTest):

    def test_home(self):
        self.check_home(rounds, HOME, ["size", "commands"])

    def test_ordinary_scripts(self):
        self.check(rounds, 2, size=3, commands=[(1, 2), (2, 3)])
        self.check(rounds, 1, size=3, commands=[(1, 2)])
        self.check(rounds, 1, size=3, commands=[(1, 2), (2, 3), (1, 2)])
        self.check(rounds, 2, size=4, commands=[(1, 3), (2, 4)])
        self.check(rounds, 3, size=4, commands=[(1, 2), (2, 3), (3, 4)])

    def test_edges(self):
        for script in ([], [(1, 1)], [(1, 1)] * 200):
            self.check(rounds, 0, size=1, commands=script)
            self.check(rounds, 0, size=4, commands=script)
            self.check(rounds, 0, size=60, commands=script)
        self.check(rounds, 0, size=4, commands=[(4, 4), (2, 2)])
        self.check(rounds, 1, size=4, commands=[(1, 4)])
        self.check(rounds, 1, size=2, commands=[(1, 2)] * 200)
        self.check(rounds, 1, size=60, commands=[(1, 60)])

    def test_against_all_arrangements(self):
        for size in range(1, 5):
            for script in scripts_to_try(size):
                self.check(rounds, plain_rounds(size, script), size=size, commands=script)

    def test_one_round_fewer_still_changes_some_row(self):
        for script in scripts_to_try(3):
            many = rounds(3, script)
            rows = [list(row) for row in itertools.product([-4, 0, 9], repeat=3)]
            stable = [plain_run(row, script * many) for row in rows]
            self.assertEqual([plain_run(row, script) for row in stable], stable)
            if many > 0:
                before = [plain_run(row, script * (many - 1)) for row in rows]
                self.assertNotEqual(before, stable)

    def test_sixty_places(self):
        self.check(rounds, 59, size=60, commands=UP)
        self.check(rounds, 59, size=60, commands=UP[::-1])
        self.check(rounds, 30, size=60, commands=UP[::2] + UP[1::2])
        self.check(rounds, 58, size=60, commands=UP[1:] + [(1, 1)] * 142)
        for script in wide_scripts():
            many = rounds(60, script)
            self.check(rounds, many, size=60, commands=script)
            wanted = plain_run(SIXTY[::-1], script)
            self.assertEqual(powered(wanted, many), powered(wanted, GREAT))
            self.assertNotEqual(powered(wanted, many - 1), powered(wanted, GREAT))

    def test_the_size_is_less_than_one(self):
        self.check_size_errors(rounds, commands=[])

    def test_the_first_wrong_command(self):
        self.check_script_errors(rounds, size=3)
        self.check_error(rounds, InvalidCommand, 0, size=1, commands=[(1, 2)])


class BlocksTest(CallTest):

    def test_home(self):
        self.check_home(blocks, HOME, ["size", "commands"])

    def test_ordinary_scripts(self):
        self.check(blocks, [(1, 3), (4, 4), (5, 5)], size=5, commands=[(1, 2), (2, 3), (4, 4)])
        self.check(blocks, [(1, 2), (3, 5), (6, 6)], size=6, commands=[(4, 5), (1, 2), (3, 4)])
        self.check(blocks, [(1, 4), (5, 8)], size=8, commands=[(5, 8), (2, 4), (6, 7), (1, 3)])
        self.check(blocks, [(1, 1), (2, 3), (4, 4)], size=4, commands=[(2, 3)])

    def test_stretches_that_only_touch_are_not_linked(self):
        self.check(blocks, [(1, 2), (3, 4)], size=4, commands=[(1, 2), (3, 4)])
        self.check(blocks, [(1, 4)], size=4, commands=[(1, 2), (3, 4), (2, 3)])
        self.check(blocks, [(1, 2), (3, 4)], size=4, commands=[(1, 2), (2, 2), (3, 3), (3, 4)])

    def test_edges(self):
        self.check(blocks, [(1, 1)], size=1, commands=[])
        self.check(blocks, [(1, 1)], size=1, commands=[(1, 1)])
        self.check(blocks, [(1, 1), (2, 2), (3, 3)], size=3, commands=[])
        self.check(blocks, [(1, 1), (2, 2), (3, 3)], size=3, commands=[(2, 2), (3, 3)])
        self.check(blocks, [(1, 3)], size=3, commands=[(1, 3)])
        self.check(blocks, [(place, place) for place in SIXTY], size=60, commands=[])
        self.check(blocks, [(1, 60)], size=60, commands=UP)
        self.check(blocks, [(1, 30), (31, 60)], size=60, commands=UP[:29] + UP[30:])

    def test_drawn_scripts(self):
        source = source_of(71)
        for size in range(1, 13):
            for length in range(1, 13):
                for longest in (2, 3, size):
                    script = random_short_script(source, size, length, longest)
                    self.check(blocks, plain_blocks(size, script), size=size, commands=script)

    def test_sixty_places(self):
        source = source_of(72)
        for script in wide_scripts() + [random_short_script(source, 60, many, 4) for many in (9, 25, 60)]:
            self.check(blocks, plain_blocks(60, script), size=60, commands=script)

    def test_the_size_is_less_than_one(self):
        self.check_size_errors(blocks, commands=[])

    def test_the_first_wrong_command(self):
        self.check_script_errors(blocks, size=3)


class UnchangedTest(CallTest):

    def check_all(self, size, script):
        """Check the three functions for all arrangements of a size."""
        rows = plain_unchanged(size, script)
        self.check(count_unchanged, len(rows), size=size, commands=script)
        for number, row in enumerate(rows):
            self.check(nth_unchanged, row, size=size, commands=script, number=number)
        for number in (-1, len(rows)):
            self.check_error(
                nth_unchanged, InvalidNumber, number, size=size, commands=script, number=number)
        for row in arrangements(size):
            told = rows.index(row) if row in rows else None
            self.check(unchanged_number, told, commands=script, row=row)

    def test_homes(self):
        self.check_home(count_unchanged, HOME, ["size", "commands"])
        self.check_home(nth_unchanged, HOME, ["size", "commands", "number"])
        self.check_home(unchanged_number, HOME, ["commands", "row"])

    def test_ordinary_scripts(self):
        script = [(1, 2), (2, 3)]
        self.check(count_unchanged, 4, size=4, commands=script)
        self.check(nth_unchanged, [1, 2, 4, 3], size=4, commands=script, number=1)
        self.check(unchanged_number, 1, commands=script, row=[1, 2, 4, 3])
        self.check(unchanged_number, None, commands=script, row=[1, 4, 2, 3])
        self.check(count_unchanged, 30, size=5, commands=[(1, 2), (4, 5)])
        self.check(nth_unchanged, [4, 5, 3, 1, 2], size=5, commands=[(1, 2), (4, 5)], number=29)

    def test_edges(self):
        for script in ([], [(1, 1)]):
            self.check_all(1, script)
            self.check_all(2, script)
        self.check_all(4, [(2, 2), (4, 4)])
        self.check_all(4, [(1, 4)])
        self.check_all(4, [(1, 2), (1, 4), (3, 4)])

    def test_against_all_arrangements(self):
        for size in range(1, 5):
            for script in scripts_to_try(size):
                self.check_all(size, script)

    def test_five_and_six_places(self):
        source = source_of(73)
        for script in ([(1, 2), (4, 5)], [(2, 3), (3, 4)], [(3, 5)], [(4, 4)]):
            self.check_all(5, script)
        for script in ([(1, 2), (2, 3), (5, 6)], [(1, 2), (3, 4), (5, 6)], [(2, 5)]):
            self.check_all(6, script)
        for length in range(1, 5):
            self.check_all(5, random_short_script(source, 5, length, 2))

    def check_there_and_back(self, size, script, number):
        """Check that a number leads to an unchanged arrangement and this one back to the number."""

        def check_answer(row):
            self.assertEqual(sorted(row), list(range(1, size + 1)))
            self.assertEqual(plain_run(row, script), row)
            self.check(unchanged_number, number, commands=script, row=row)

        self.check_fits(nth_unchanged, check_answer, size=size, commands=script, number=number)

    def test_sixty_places(self):
        source = source_of(74)
        scripts = [random_short_script(source, 60, many, 4) for many in (1, 9, 25, 60)]
        for script in wide_scripts() + scripts + [[], UP, UP[::2], UP[::3], [(7, 55)]]:
            many = math.factorial(60)
            for first, last in blocks(60, script):
                many //= math.factorial(last - first + 1)
            self.check(count_unchanged, many, size=60, commands=script)
            for number in (0, many - 1, many // 2, many // 3, source.randrange(many)):
                self.check_there_and_back(60, script, number)
            for number in (-1, -GREAT, many, many + 1, many + GREAT):
                self.check_error(
                    nth_unchanged, InvalidNumber, number, size=60, commands=script, number=number)

    def test_the_first_and_the_last_row_of_sixty_places(self):
        many = math.factorial(60)
        self.check(count_unchanged, many, size=60, commands=[])
        self.check(nth_unchanged, SIXTY, size=60, commands=[], number=0)
        self.check(nth_unchanged, SIXTY[::-1], size=60, commands=[], number=many - 1)
        self.check(unchanged_number, many - 1, commands=[], row=SIXTY[::-1])
        self.check(count_unchanged, 1, size=60, commands=[(1, 60)])
        self.check(nth_unchanged, SIXTY, size=60, commands=[(1, 60)], number=0)
        self.check(unchanged_number, 0, commands=[(1, 60)], row=SIXTY)
        self.check(unchanged_number, None, commands=[(1, 60)], row=SIXTY[::-1])
        halves = [(1, 30), (31, 60)]
        self.check(count_unchanged, math.comb(60, 30), size=60, commands=halves)
        last = SIXTY[30:] + SIXTY[:30]
        self.check(nth_unchanged, last, size=60, commands=halves, number=math.comb(60, 30) - 1)

    def test_the_numbers_ascend_with_the_rows(self):
        source = source_of(75)
        for script in ([], UP[::2], UP[::4] + UP[1::4], [(7, 30)]):
            many = count_unchanged(60, script)
            numbers = sorted(source.randrange(many) for _ in range(40))
            rows = [nth_unchanged(60, script, number) for number in numbers]
            self.assertEqual(rows, sorted(rows))
            near = [nth_unchanged(60, script, numbers[7] + more) for more in range(-20, 20)]
            self.assertEqual(near, sorted(near))
            self.assertEqual(len({tuple(row) for row in near}), 40)

    def test_rows_that_the_script_changes(self):
        source = source_of(76)
        for script in wide_scripts():
            for _ in range(5):
                row = random_arrangement(source, 60)
                told = None if plain_run(row, script) != row else unchanged_number(script, row)
                self.check(unchanged_number, told, commands=script, row=row)
        self.check(unchanged_number, None, commands=[(59, 60)], row=SIXTY[:58] + [60, 59])

    def test_what_is_returned_may_be_passed_on(self):
        script = exchanges(SIXTY)
        self.check(count_unchanged, 1, size=60, commands=script)
        self.check(rounds, 1, size=60, commands=script)
        self.check(blocks, [(1, 60)], size=60, commands=script)
        self.check(unchanged_number, None, commands=script, row=greatest_row(60, script))
        number = count_unchanged(60, []) - 1
        self.check(nth_unchanged, SIXTY[::-1], size=60, commands=[], number=number)

    def test_the_size_is_less_than_one(self):
        self.check_size_errors(count_unchanged, commands=[])
        for number in (0, -1, 7):
            self.check_size_errors(nth_unchanged, commands=[], number=number)

    def test_the_first_wrong_command(self):
        self.check_script_errors(count_unchanged, size=3)
        for number in (0, -1, GREAT):
            self.check_script_errors(nth_unchanged, size=3, commands=[], number=number)
        for commands, index in WRONG_SCRIPTS_OF_THREE:
            for row in ([1, 2, 3], [3, 2, 1]):
                self.check_error(unchanged_number, InvalidCommand, index, commands=commands, row=row)

    def test_there_is_no_such_number(self):
        for number in (-1, -7, -GREAT, 4, 5, GREAT):
            self.check_error(
                nth_unchanged, InvalidNumber, number, size=4, commands=[(1, 3)], number=number)
        for number in (-1, 1, GREAT):
            self.check_error(nth_unchanged, InvalidNumber, number, size=1, commands=[], number=number)
            self.check_error(
                nth_unchanged, InvalidNumber, number, size=60, commands=[(1, 60)], number=number)

    def test_the_row_is_no_arrangement(self):
        for row, index in WRONG_ARRANGEMENTS:
            for commands in ([], [(1, 1)], [(0, 0)], [(1, 99)]):
                self.check_error(unchanged_number, InvalidRow, index, commands=commands, row=row)

    def test_the_order_of_the_errors(self):
        self.check_error(nth_unchanged, InvalidSize, 0, size=0, commands=[(1, 2)], number=-1)
        self.check_error(nth_unchanged, InvalidCommand, 1, size=2, commands=[(1, 2), (0, 1)], number=-1)
        self.check_error(unchanged_number, InvalidRow, 1, commands=[(2, 1)], row=[1, 1])
        self.check_error(unchanged_number, InvalidCommand, 0, commands=[(2, 1)], row=[1, 2])


class TurnsTest(CallTest):

    def check_turns(self, told, alone, shared, other):
        self.check(turns, told, alone=alone, shared=shared, other=other)

    def test_home(self):
        self.check_home(turns, HOME, ["alone", "shared", "other"])

    def test_ordinary_numbers(self):
        self.check_turns(4, 1, 1, 2)
        self.check_turns(3, 1, 1, 1)
        self.check_turns(3, 2, 1, 1)
        self.check_turns(5, 2, 1, 2)
        self.check_turns(6, 2, 1, 3)
        self.check_turns(3, 3, 3, 3)
        self.check_turns(4, 3, 3, 4)

    def test_a_single_place_in_all(self):
        self.check_turns(0, 0, 1, 0)

    def test_no_places_of_their_own(self):
        self.check_turns(1, 0, 2, 0)
        self.check_turns(1, 1, 1, 0)
        self.check_turns(2, 0, 1, 1)
        self.check_turns(1, 5, 2, 0)
        self.check_turns(2, 0, 2, 5)

    def test_against_the_running_on_all_bit_rows(self):
        for alone in range(6):
            for shared in range(1, 6):
                for other in range(6):
                    if alone + shared + other <= 9:
                        told = plain_turns(alone, shared, other)
                        self.check_turns(told, alone, shared, other)

    def test_against_the_running_on_the_descending_arrangement(self):
        for alone in range(13):
            for shared in range(1, 9):
                for other in range(13):
                    told = turns_of_descending(alone, shared, other)
                    self.check_turns(told, alone, shared, other)
        for alone, shared, other in [(40, 3, 40), (40, 3, 90), (90, 3, 40), (90, 7, 91), (91, 7, 92)]:
            self.check_turns(turns_of_descending(alone, shared, other), alone, shared, other)

    def test_great_numbers(self):
        self.check_turns(66666666666666666670, 10 ** 20, 3, 10 ** 21)
        self.check_turns(66666666666666666669, 10 ** 21, 3, 10 ** 20)
        self.check_turns(2 * GREAT + 1, GREAT, 1, GREAT)
        self.check_turns(2 * GREAT, GREAT - 1, 1, GREAT)
        self.check_turns(2 * GREAT - 1, GREAT, 1, GREAT - 1)
        self.check_turns(3, GREAT, GREAT, GREAT)
        self.check_turns(1, GREAT, GREAT, 0)
        self.check_turns(2, 0, GREAT, GREAT)
        self.check_turns(1, 0, GREAT, 0)
        self.check_turns(4, GREAT - 1, GREAT - 1, GREAT)
        self.check_turns(3, GREAT, GREAT - 1, 1)
        self.check_turns(2 * 10 ** 29 + 1, GREAT, 10, GREAT)
        self.check_turns(2 * 10 ** 29 + 1, GREAT - 9, 10, GREAT)
        self.check_turns(2 * 10 ** 29, GREAT - 10, 10, GREAT)

    def test_the_first_wrong_number(self):
        for number in (-1, -GREAT):
            self.check_error(turns, InvalidNumber, number, alone=number, shared=1, other=0)
            self.check_error(turns, InvalidNumber, number, alone=0, shared=1, other=number)
            self.check_error(turns, InvalidNumber, number, alone=3, shared=2, other=number)
        for number in (0, -1, -GREAT):
            self.check_error(turns, InvalidNumber, number, alone=0, shared=number, other=0)
            self.check_error(turns, InvalidNumber, number, alone=4, shared=number, other=3)
            self.check_error(turns, InvalidNumber, number, alone=1, shared=number, other=0)

    def test_the_order_of_the_errors(self):
        self.check_error(turns, InvalidNumber, -2, alone=-2, shared=0, other=-3)
        self.check_error(turns, InvalidNumber, -2, alone=-2, shared=3, other=-3)
        self.check_error(turns, InvalidNumber, 0, alone=2, shared=0, other=-3)


if __name__ == "__main__":
    unittest.main()

"""What the tests share: plain oracles, rows and scripts to try, and checks of calls."""

import copy
import inspect
import itertools
import random
import unittest

from sortstretches.errors import InvalidCommand, InvalidRow, InvalidSize, SortError

GREAT = 10 ** 30

# Scripts that are wrong for rows of three places, each with the index of its first wrong command.
WRONG_SCRIPTS_OF_THREE = [
    ([(0, 1)], 0),
    ([(0, 0)], 0),
    ([(-1, 2)], 0),
    ([(2, 1)], 0),
    ([(3, 2)], 0),
    ([(1, 4)], 0),
    ([(4, 4)], 0),
    ([(4, 3)], 0),
    ([(-GREAT, 3)], 0),
    ([(1, GREAT)], 0),
    ([(1, -GREAT)], 0),
    ([(GREAT, GREAT)], 0),
    ([(1, 3), (1, 1), (2, 4)], 2),
    ([(3, 3), (0, 3), (2, 1), (1, 4)], 1),
    ([(1, 2), (3, 1), (1, 3), (0, 1)], 1),
    ([(1, 3)] * 199 + [(2, 4)], 199),
]

# Rows that are no arrangements, each with the index of its first wrong value.
WRONG_ARRANGEMENTS = [
    ([0], 0),
    ([2], 0),
    ([-1], 0),
    ([GREAT], 0),
    ([-GREAT], 0),
    ([1, 1], 1),
    ([2, 2], 1),
    ([1, 3], 1),
    ([3, 1], 0),
    ([0, 1, 2], 0),
    ([1, 2, 0], 2),
    ([2, 3, 4], 2),
    ([3, 1, 3], 2),
    ([2, 1, 2, 1], 2),
    ([4, 4, 0, 9], 1),
    ([3, 0, 3, 9], 1),
    ([1, 2, 9, 2], 2),
    (list(range(1, 60)) + [59], 59),
    (list(range(1, 60)) + [61], 59),
]


def arrangements(size):
    """Return all arrangements of a size, ascending."""
    return [list(row) for row in itertools.permutations(range(1, size + 1))]


def commands_for(size):
    """Return all commands for a size."""
    return [(i, j) for i in range(1, size + 1) for j in range(i, size + 1)]


def plain_run(row, commands):
    """Run a script as the document words it."""
    for i, j in commands:
        row = row[:i - 1] + sorted(row[i - 1:j]) + row[j:]
    return row


def plain_is_at_most(first, second):
    """Compare two arrangements as the document words it."""
    places = range(1, len(first) + 1)
    return all(
        len([v for v in first[:p] if v <= q]) >= len([v for v in second[:p] if v <= q])
        for p in places for q in places)


def plain_inversions(row):
    """Count the pairs of places that descend."""
    return len([1 for i, j in itertools.combinations(range(len(row)), 2) if row[i] > row[j]])


def sorts_all(size, commands):
    """Tell whether a script sorts every arrangement of a size, as the document words it."""
    return all(plain_run(row, commands) == sorted(row) for row in arrangements(size))


def shortest_exchange_scripts(size):
    """Return scripts of commands (i, i + 1): one of the shortest ones for each thing that such scripts do.

    They ascend in length.
    """
    start = tuple(tuple(row) for row in arrangements(size))
    found = {start: []}
    waiting = [start]
    for rows in waiting:
        for i in range(1, size):
            made = tuple(tuple(plain_run(list(row), [(i, i + 1)])) for row in rows)
            if made not in found:
                found[made] = found[rows] + [(i, i + 1)]
                waiting.append(made)
    return list(found.values())


def scripts_of_all_effects(size):
    """Return a dict that tells for each arrangement, as a tuple, a script that has this effect."""
    start = tuple(range(size, 0, -1))
    found = {start: []}
    waiting = [start]
    for row in waiting:
        for command in commands_for(size):
            made = tuple(plain_run(list(row), [command]))
            if made not in found:
                found[made] = found[row] + [command]
                waiting.append(made)
    return found


def scripts_to_try(size):
    """Return scripts for a size: one for each effect, some with commands that do nothing."""
    source = source_of(size)
    found = list(scripts_of_all_effects(size).values())
    found += [[(1, 1)], [(size, size), (1, size), (1, size)]]
    found += [random_script(source, size, length) for length in range(1, 9) for _ in range(3)]
    return found + [random_short_script(source, size, length, 2) for length in range(1, 9)]


def wide_scripts():
    """Return scripts of 200 commands for 60 places, of short and of long stretches."""
    source = source_of(60)
    return [random_short_script(source, 60, 200, longest) for longest in (2, 3, 4, 6, 60)]


def random_script(source, size, length):
    """Return a script of so many commands for a size."""
    return [tuple(sorted([source.randint(1, size), source.randint(1, size)])) for _ in range(length)]


def random_short_script(source, size, length, longest):
    """Return a script of so many commands for a size, each of at most so many places."""
    starts = [source.randint(1, size) for _ in range(length)]
    return [(i, source.randint(i, min(size, i + longest - 1))) for i in starts]


def random_arrangement(source, size):
    """Return an arrangement of a size."""
    return source.sample(range(1, size + 1), size)


def source_of(seed):
    """Return a source of the same choices in every run."""
    return random.Random(seed)


class CallTest(unittest.TestCase):
    """Checks what holds for every function of the interface, beside its answer."""

    def check(self, function, told, /, **arguments):
        """Check that a function tells this, by position and by name."""
        self.check_fits(function, lambda answer: self.check_same(answer, told), **arguments)

    def check_fits(self, function, check_answer, /, **arguments):
        """Check what a function tells, by position and by name.

        The answer is spoiled between the calls, so that a list that is kept or is not new shows.
        """
        before = copy.deepcopy(arguments)
        by_position = function(*arguments.values())
        check_answer(by_position)
        self.assertEqual(arguments, before)
        if isinstance(by_position, list):
            for inner in by_position:
                if isinstance(inner, list):
                    inner.append("spoiled")
            by_position.append("spoiled")
        self.assertEqual(arguments, before)
        by_name = function(**dict(reversed(list(arguments.items()))))
        check_answer(by_name)
        self.assertEqual(arguments, before)

    def check_same(self, told, wanted):
        """Check that two values are equal and of the same kinds (True is not 1)."""
        self.assertEqual(told, wanted)
        self.assertEqual(repr(told), repr(wanted))

    def check_error(self, function, error, value, /, **arguments):
        """Check the exact class and the exact value of the error of a call, by position and by name."""
        before = copy.deepcopy(arguments)
        with self.assertRaises(SortError) as by_position:
            function(*arguments.values())
        with self.assertRaises(SortError) as by_name:
            function(**arguments)
        for caught in (by_position, by_name):
            self.assertIs(type(caught.exception), error)
            self.check_same(caught.exception.value, value)
        self.assertEqual(arguments, before)

    def check_script_errors(self, function, name="commands", /, **arguments):
        """Check the Script check of a function whose other arguments are for three places.

        The script stands last, or where a script is given in its place.
        """
        for commands, index in WRONG_SCRIPTS_OF_THREE:
            with self.subTest(commands=commands):
                self.check_error(function, InvalidCommand, index, **{**arguments, name: commands})

    def check_size_errors(self, function, /, **others):
        """Check the Size check of a function of a size, scripts, and what else stands behind them.

        It comes before each Script check.
        """
        for size in (0, -1, -7, -GREAT):
            for commands in ([], [(1, 1)], [(0, 0)], [(2, 1)], [(1, 2), (GREAT, 1)]):
                with self.subTest(size=size, commands=commands):
                    arguments = {
                        name: commands if isinstance(given, list) else given
                        for name, given in others.items()}
                    self.check_error(function, InvalidSize, size, size=size, **arguments)

    def check_arrangement_errors(self, function, name, /, **others):
        """Check the Arrangement check of a function's argument; the others stand behind it."""
        for row, index in WRONG_ARRANGEMENTS:
            with self.subTest(row=row):
                self.check_error(function, InvalidRow, index, **{name: row}, **others)

    def check_home(self, function, module, names):
        """Check where a function is defined and what its arguments are called."""
        self.assertEqual(function.__module__, module)
        self.assertEqual(list(inspect.signature(function).parameters), names)

"""Tests of sortstretches.live (points 2, 3, 4, 6, 7 and 8)."""

import copy
import inspect
import itertools
import unittest
from unittest import mock

from sortstretches.effects import effect
from sortstretches.errors import InvalidCommand, InvalidSize, NothingToUndo, SortError
from sortstretches.live import LiveRow, ScriptBook
from sortstretches.orders import sorts_at_least_as_far
from sortstretches.rows import run, stages
from sortstretches.scripts import exchanges, same_scripts
from tests.support import (
    GREAT, WRONG_SCRIPTS_OF_THREE, CallTest, plain_is_at_most, plain_run, random_script,
    random_short_script, scripts_of_all_effects, scripts_to_try, source_of, wide_scripts)

HOME = "sortstretches.live"
SIXTY = list(range(1, 61))
LETTERS = "abcdefghijklmnopqrstuvwxyz"


class OwnRow(LiveRow):
    """A class of a caller."""


def performed(row, commands):
    """Return a live row of which a script was run, one call for each command."""
    live = LiveRow(row)
    for command in commands:
        live.perform(command)
    return live


def shown(live):
    """Return all that a live row shows."""
    return [live.row, live.script, live.is_sorted, list(live.past())]


class LiveRowTest(CallTest):

    def check_live(self, live, start, script):
        """Check all that a live row shows, after a script was run on a row."""
        rows = [plain_run(start, script[:many]) for many in range(len(script) + 1)]
        self.check_same(shown(live), [rows[-1], script, rows[-1] == sorted(start), rows])
        self.assertEqual(run(start, script), live.row)
        self.assertEqual(list(stages(start, script)), list(live.past()))

    def check_refused(self, live, error, value, method, *given):
        """Check the error of a method's call, and that it changes nothing."""
        before = shown(live)
        with self.assertRaises(SortError) as caught:
            method(*given)
        self.assertIs(type(caught.exception), error)
        self.check_same(caught.exception.value, value)
        self.check_same(shown(live), before)

    def test_home(self):
        self.check_home(LiveRow, HOME, ["row"])
        wanted = {"perform": ["self", "commands"], "undo": ["self"], "past": ["self"]}
        for name, parameters in wanted.items():
            self.assertTrue(inspect.isfunction(vars(LiveRow)[name]))
            self.assertEqual(list(inspect.signature(vars(LiveRow)[name]).parameters), parameters)
        for name in ("row", "script", "is_sorted"):
            self.assertIsInstance(vars(LiveRow)[name], property)
        self.assertIsInstance(vars(LiveRow)["descending"], classmethod)
        self.assertEqual(list(inspect.signature(LiveRow.descending).parameters), ["size"])
        self.assertIn("__eq__", vars(LiveRow))

    def test_ordinary_rows(self):
        live = LiveRow(row=[9, 5, 7, 5])
        self.check_live(live, [9, 5, 7, 5], [])
        self.assertIsNone(live.perform((1, 2)))
        self.check_live(live, [9, 5, 7, 5], [(1, 2)])
        self.assertIsNone(live.perform((2, 3), (1, 4)))
        self.check_live(live, [9, 5, 7, 5], [(1, 2), (2, 3), (1, 4)])
        self.check_same(
            list(live.past()), [[9, 5, 7, 5], [5, 9, 7, 5], [5, 7, 9, 5], [5, 5, 7, 9]])
        self.assertIs(live.is_sorted, True)

    def test_one_place(self):
        live = LiveRow([-4])
        self.check_live(live, [-4], [])
        live.perform((1, 1), (1, 1))
        self.check_live(live, [-4], [(1, 1), (1, 1)])
        live.undo()
        self.check_live(live, [-4], [(1, 1)])

    def test_no_commands(self):
        live = LiveRow([2, 1])
        self.assertIsNone(live.perform())
        self.check_live(live, [2, 1], [])
        self.check_refused(live, NothingToUndo, 0, live.undo)
        live.perform((1, 2))
        live.perform()
        self.check_live(live, [2, 1], [(1, 2)])

    def test_commands_of_one_place_count_as_commands(self):
        live = LiveRow([3, 2, 1])
        live.perform((2, 2))
        live.perform((1, 2), (3, 3))
        self.check_live(live, [3, 2, 1], [(2, 2), (1, 2), (3, 3)])
        live.undo()
        self.check_live(live, [3, 2, 1], [(2, 2), (1, 2)])
        live.undo()
        live.undo()
        self.check_live(live, [3, 2, 1], [])

    def test_equal_values_are_ascending(self):
        self.assertIs(LiveRow([5, 5, 5]).is_sorted, True)
        self.assertIs(LiveRow([5, 5, 4]).is_sorted, False)
        self.assertIs(LiveRow([-GREAT, 0, 0, GREAT]).is_sorted, True)

    def test_undo_takes_back_single_commands_of_one_call(self):
        script = [(1, 2), (2, 4), (3, 3), (1, 4)]
        live = LiveRow([4, 3, 2, 1])
        live.perform(*script)
        for left in (3, 2, 1, 0):
            self.assertIsNone(live.undo())
            self.check_live(live, [4, 3, 2, 1], script[:left])
        for _ in range(3):
            self.check_refused(live, NothingToUndo, 0, live.undo)
        live.perform((3, 4))
        self.check_live(live, [4, 3, 2, 1], [(3, 4)])

    def test_other_commands_after_undo(self):
        live = LiveRow([4, 3, 2, 1])
        live.perform((1, 2), (1, 4))
        live.undo()
        live.perform((2, 3))
        self.check_live(live, [4, 3, 2, 1], [(1, 2), (2, 3)])
        self.assertEqual(live, performed([4, 3, 2, 1], [(1, 2), (2, 3)]))
        self.assertNotEqual(live, performed([4, 3, 2, 1], [(1, 4)]))
        live.undo()
        live.undo()
        self.assertEqual(live, LiveRow([4, 3, 2, 1]))

    def test_small_rows_against_the_running_of_the_script(self):
        for size in range(1, 4):
            for script in scripts_to_try(size):
                for row in itertools.product([-1, 3], repeat=size):
                    self.check_live(performed(list(row), script), list(row), script)
                live = LiveRow.descending(size)
                live.perform(*script)
                self.check_live(live, list(range(size, 0, -1)), script)

    def test_drawn_calls(self):
        source = source_of(111)
        for _ in range(30):
            size = source.randint(1, 8)
            row = [source.randint(-5, 5) for _ in range(size)]
            live = LiveRow(row)
            script = []
            for _ in range(40):
                if source.random() < 0.6:
                    more = random_script(source, size, source.randint(0, 3))
                    live.perform(*more)
                    script += more
                elif script:
                    live.undo()
                    script.pop()
                else:
                    self.check_refused(live, NothingToUndo, 0, live.undo)
                self.check_live(live, row, script)
                self.assertEqual(live, performed(row, script))

    def test_sixty_places_with_two_hundred_commands(self):
        source = source_of(112)
        for script in wide_scripts():
            row = [source.randint(-GREAT, GREAT) for _ in range(60)]
            live = LiveRow(row)
            live.perform(*script[:150])
            for command in script[150:]:
                live.perform(command)
            self.check_live(live, row, script)
            for left in range(199, 150, -1):
                live.undo()
            self.check_live(live, row, script[:151])

    def test_what_is_handed_over_may_be_changed(self):
        row = [3, 2, 1]
        script = [(1, 2)]
        live = LiveRow(row)
        live.perform(*script)
        row[0] = 99
        row.append(7)
        script.append((1, 3))
        self.check_live(live, [3, 2, 1], [(1, 2)])
        self.assertEqual(live, performed([3, 2, 1], [(1, 2)]))

    def test_what_is_returned_may_be_changed(self):
        live = performed([3, 2, 1], [(1, 2), (2, 3)])
        live.row.append(9)
        live.script.append((1, 3))
        for row in live.past():
            row[0] = 99
            row.append(9)
        present = live.row
        present[0] = 99
        for row in list(live.past()):
            row.clear()
        self.check_live(live, [3, 2, 1], [(1, 2), (2, 3)])
        self.assertEqual(live, performed([3, 2, 1], [(1, 2), (2, 3)]))
        live.undo()
        self.check_live(live, [3, 2, 1], [(1, 2)])

    def test_what_was_returned_stays_as_it_was(self):
        live = performed([3, 2, 1], [(1, 2)])
        row, script, past = live.row, live.script, list(live.past())
        live.perform((2, 3), (1, 2))
        live.undo()
        live.undo()
        live.undo()
        self.check_same([row, script, past], [[2, 3, 1], [(1, 2)], [[3, 2, 1], [2, 3, 1]]])

    def test_the_properties_are_not_set_from_outside(self):
        live = performed([3, 2, 1], [(1, 2)])
        for name in ("row", "script", "is_sorted"):
            with self.assertRaises(AttributeError):
                setattr(live, name, [])
        self.check_live(live, [3, 2, 1], [(1, 2)])

    def test_several_walks_at_once_and_walks_that_stop_early(self):
        live = performed([3, 2, 1], [(1, 2), (2, 3)])
        other = performed([3, 2, 1], [(2, 3)])
        first = live.past()
        self.assertEqual(next(first), [3, 2, 1])
        second = live.past()
        third = other.past()
        self.assertEqual([next(first), next(second), next(third)], [[2, 3, 1], [3, 2, 1], [3, 2, 1]])
        self.assertEqual([next(third), next(first)], [[3, 1, 2], [2, 1, 3]])
        self.assertEqual(list(first), [])
        second.close()
        live.undo()
        self.assertEqual(list(live.past()), [[3, 2, 1], [2, 3, 1]])
        live.perform((1, 3))
        self.assertEqual(list(live.past()), [[3, 2, 1], [2, 3, 1], [1, 2, 3]])

    def test_the_row_is_empty(self):
        self.check_error(LiveRow, InvalidSize, 0, row=[])

    def test_no_command_is_run_if_one_is_wrong(self):
        for start, done in (([3, 2, 1], []), ([3, 2, 1], [(1, 2), (3, 3)]), ([5, 5, 5], [(1, 3)])):
            live = performed(start, done)
            for commands, index in WRONG_SCRIPTS_OF_THREE:
                with self.subTest(commands=commands):
                    before = copy.deepcopy(commands)
                    self.check_refused(live, InvalidCommand, index, live.perform, *commands)
                    self.assertEqual(commands, before)
            self.check_live(live, start, done)
            self.assertEqual(live, performed(start, done))
            # The index tells the place among the commands of the call.
            self.check_refused(live, InvalidCommand, 1, live.perform, (1, 3), (1, 4), (0, 1))

    def test_descending(self):
        for size in (1, 2, 3, 60):
            live = LiveRow.descending(size)
            self.assertIs(type(live), LiveRow)
            self.check_live(live, list(range(size, 0, -1)), [])
            self.assertEqual(live, LiveRow.descending(size=size))
            self.assertEqual(live, LiveRow(list(range(size, 0, -1))))
        live.perform((1, 60))
        self.assertEqual(LiveRow.descending(60).row, SIXTY[::-1])

    def test_descending_on_another_class(self):
        own = OwnRow.descending(3)
        self.assertIs(type(own), OwnRow)
        own.perform((1, 2))
        self.check_live(own, [3, 2, 1], [(1, 2)])
        self.assertIs(type(own.descending(2)), OwnRow)
        self.assertEqual(own, performed([3, 2, 1], [(1, 2)]))
        self.assertEqual(performed([3, 2, 1], [(1, 2)]), own)

    def test_descending_for_a_size_less_than_one(self):
        for function in (LiveRow.descending, OwnRow.descending, LiveRow([1]).descending):
            for size in (0, -1, -GREAT):
                self.check_error(function, InvalidSize, size, size=size)


class EqualityTest(CallTest):

    def check_equal(self, equal, one, other):
        """Check both signs, in both directions."""
        self.assertIs(one == other, equal)
        self.assertIs(other == one, equal)
        self.assertIs(one != other, not equal)
        self.assertIs(other != one, not equal)

    def test_the_scripts_do_the_same(self):
        script = [(1, 2), (2, 3), (1, 2)]
        self.check_equal(True, performed([3, 2, 1], script), performed([3, 2, 1], [(1, 3)]))
        self.check_equal(True, LiveRow([3, 2, 1]), performed([3, 2, 1], [(2, 2)]))
        self.check_equal(True, LiveRow([1]), performed([1], [(1, 1)]))
        self.check_equal(
            True, performed([4, 4, 0], [(1, 2)]), performed([4, 4, 0], [(1, 2), (1, 2)]))
        live = LiveRow([7, 7])
        self.check_equal(True, live, live)

    def test_the_same_present_row_is_not_enough(self):
        self.check_equal(False, LiveRow([1, 2, 3]), performed([1, 2, 3], [(1, 2)]))
        self.check_equal(False, performed([5, 5], [(1, 2)]), LiveRow([5, 5]))
        self.check_equal(False, performed([3, 1, 2], [(1, 3)]), performed([3, 1, 2], [(1, 2), (2, 3)]))

    def test_the_rows_at_the_start_differ(self):
        self.check_equal(False, LiveRow([1, 2]), LiveRow([2, 1]))
        self.check_equal(False, performed([2, 1], [(1, 2)]), performed([1, 2], [(1, 2)]))
        self.check_equal(False, performed([2, 1], [(1, 2)]), LiveRow([1, 2]))
        self.check_equal(False, LiveRow([1]), LiveRow([1, 1]))
        self.check_equal(False, LiveRow([3, 2, 1]), LiveRow([30, 20, 10]))

    def test_equality_changes_with_the_scripts(self):
        one, other = LiveRow([3, 2, 1]), LiveRow([3, 2, 1])
        one.perform((1, 2))
        self.check_equal(False, one, other)
        other.perform((1, 2), (2, 2))
        self.check_equal(True, one, other)
        one.undo()
        self.check_equal(False, one, other)
        other.undo()
        other.undo()
        self.check_equal(True, one, other)

    def test_against_same_scripts(self):
        for size in range(1, 4):
            scripts = scripts_to_try(size)[:40]
            for row in ([4] * size, list(range(size)), list(range(size, 0, -1))):
                lives = [performed(row, script) for script in scripts]
                for (first, one), (second, other) in itertools.product(zip(scripts, lives), repeat=2):
                    self.assertIs(one == other, same_scripts(size, first, second))

    def test_sixty_places(self):
        for script in wide_scripts():
            self.check_equal(
                True, performed(SIXTY, script), performed(SIXTY, exchanges(effect(60, script))))
            self.check_equal(False, performed(SIXTY, script), LiveRow(SIXTY))

    def test_nothing_else_is_equal(self):
        live = LiveRow([1])
        for other in ([1], (1,), 1, None, True, "1", [], live.row, ScriptBook(1), SortError, mock.ANY, LiveRow):
            self.assertIs(live == other, False)
            self.assertIs(live != other, True)


class ScriptBookTest(CallTest):

    def book_of(self, size, scripts):
        """Return a book with scripts that a dict names."""
        book = ScriptBook(size)
        for name, commands in scripts.items():
            self.assertIsNone(book.put(name, commands))
        return book

    def check_book(self, size, scripts):
        """Check the classes and the best scripts of a book against the functions of two scripts."""
        book = self.book_of(size, scripts)
        names = sorted(scripts)
        classes = []
        for name in names:
            for known in classes:
                if same_scripts(size, scripts[known[0]], scripts[name]):
                    known.append(name)
                    break
            else:
                classes.append([name])
        best = [
            name for name in names
            if not any(
                sorts_at_least_as_far(size, scripts[other], scripts[name])
                and not same_scripts(size, scripts[other], scripts[name]) for other in names)]
        self.check_same(list(book.classes()), classes)
        self.check(book.best, best)
        self.check_same(list(book.classes()), classes)

    def test_home(self):
        self.check_home(ScriptBook, HOME, ["size"])
        wanted = {"put": ["self", "name", "commands"], "classes": ["self"], "best": ["self"]}
        for name, parameters in wanted.items():
            self.assertTrue(inspect.isfunction(vars(ScriptBook)[name]))
            self.assertEqual(list(inspect.signature(vars(ScriptBook)[name]).parameters), parameters)

    def test_ordinary_books(self):
        book = self.book_of(3, {"a": [(1, 2)], "b": [(1, 2), (2, 3)], "c": [(1, 2), (1, 2)]})
        self.check_same(list(book.classes()), [["a", "c"], ["b"]])
        self.check(book.best, ["b"])
        book = self.book_of(4, {
            "right": [(3, 4)], "left": [(1, 2)], "both": [(3, 4), (1, 2)], "middle": [(2, 3)],
            "again": [(1, 2), (4, 4), (3, 4)], "nothing": []})
        self.check_same(
            list(book.classes()), [["again", "both"], ["left"], ["middle"], ["nothing"], ["right"]])
        self.check(book.best, ["again", "both", "middle"])

    def test_an_empty_book(self):
        for size in (1, 3, 60):
            book = ScriptBook(size=size)
            self.check_same(list(book.classes()), [])
            self.check(book.best, [])

    def test_one_place(self):
        book = self.book_of(1, {"b": [], "a": [(1, 1)]})
        self.check_same(list(book.classes()), [["a", "b"]])
        self.check(book.best, ["a", "b"])

    def test_scripts_that_do_nothing(self):
        book = self.book_of(3, {"z": [], "y": [(3, 3)]})
        self.check_same(list(book.classes()), [["y", "z"]])
        self.check(book.best, ["y", "z"])
        book.put("x", [(2, 3)])
        self.check(book.best, ["x"])

    def test_the_arguments_of_put(self):
        book = ScriptBook(3)
        script = [(1, 2)]
        self.check(book.put, None, name="a", commands=script)
        self.check_same(list(book.classes()), [["a"]])

    def test_a_name_that_is_put_again(self):
        book = self.book_of(3, {"a": [(1, 3)], "b": [(1, 2)], "c": [(1, 2), (1, 2)]})
        self.check(book.best, ["a"])
        book.put("a", [])
        self.check_same(list(book.classes()), [["a"], ["b", "c"]])
        self.check(book.best, ["b", "c"])
        book.put("b", [(2, 3)])
        self.check_same(list(book.classes()), [["a"], ["b"], ["c"]])
        self.check(book.best, ["b", "c"])
        book.put("a", [(1, 2), (2, 3)])
        self.check(book.best, ["a"])
        book.put("a", [(1, 2), (2, 3)])
        self.check_same(list(book.classes()), [["a"], ["b"], ["c"]])

    def test_names_that_begin_alike(self):
        names = ["a", "aa", "aaa", "ab", "b", "ba", "a" * 20, "a" * 19, "z" * 20, "az"]
        book = self.book_of(3, {name: [(1, 2)] * (1 + len(name)) for name in names})
        self.check_same(list(book.classes()), [sorted(names)])
        self.check(book.best, sorted(names))
        book.put("aa", [(2, 3)])
        rest = sorted(set(names) - {"aa"})
        self.check_same(list(book.classes()), [rest, ["aa"]])
        self.check(book.best, sorted(names))
        book.put("a", [(2, 3), (3, 3)])
        self.check_same(list(book.classes()), [["a", "aa"], sorted(set(rest) - {"a"})])

    def test_the_order_of_the_classes_is_by_first_names(self):
        book = self.book_of(3, {"d": [(1, 2)], "b": [(1, 3)], "a": [(2, 3)], "c": [(2, 3)], "e": [(1, 3)]})
        self.check_same(list(book.classes()), [["a", "c"], ["b", "e"], ["d"]])
        self.check(book.best, ["b", "e"])

    def test_all_effects_against_the_functions_of_two_scripts(self):
        source = source_of(121)
        for size in range(1, 5):
            scripts = scripts_to_try(size)
            for many in (1, 2, 5, 12, 40):
                drawn = [source.choice(scripts) for _ in range(many)]
                names = source.sample([one + other for one in LETTERS for other in ["", "a", "b"]], many)
                self.check_book(size, dict(zip(names, drawn)))

    def test_all_effects_of_four_places_but_the_least_ones(self):
        effects = scripts_of_all_effects(4)
        scripts = {}
        for wanted, script in effects.items():
            least = [one for one in effects if plain_is_at_most(list(one), list(wanted))]
            if len(least) > 4:
                scripts["".join(LETTERS[value] for value in wanted)] = script
        self.check_book(4, scripts)

    def test_sixty_places_with_two_hundred_commands(self):
        source = source_of(122)
        scripts = wide_scripts()
        scripts += [script[:many] for script in scripts for many in (0, 60, 190)]
        scripts += [exchanges(effect(60, script)) for script in scripts[:5]]
        names = source.sample([one + other for one in LETTERS for other in LETTERS], len(scripts))
        self.check_book(60, dict(zip(names, scripts)))

    def test_a_hundred_scripts(self):
        source = source_of(123)
        book = ScriptBook(60)
        names = source.sample([one + other for one in LETTERS for other in LETTERS], 98)
        for name in names:
            book.put(name, random_short_script(source, 60, 30, 3))
        self.assertEqual(sorted(itertools.chain(*book.classes())), sorted(names))
        self.assertEqual(book.best(), sorted(book.best()))
        book.put("best", [(1, 60)])
        self.check(book.best, ["best"])

    def test_what_is_handed_over_may_be_changed(self):
        book = ScriptBook(3)
        script = [(1, 2)]
        book.put("a", script)
        script.append((1, 3))
        book.put("b", script)
        script.clear()
        book.put("c", script)
        self.check_same(list(book.classes()), [["a"], ["b"], ["c"]])
        self.check(book.best, ["b"])
        book.put("d", [(1, 2)])
        self.check_same(list(book.classes()), [["a", "d"], ["b"], ["c"]])

    def test_what_is_returned_may_be_changed(self):
        book = self.book_of(3, {"a": [(1, 2)], "b": [(1, 2)], "c": []})
        told = []
        for names in book.classes():
            told.append(list(names))
            names.append("z")
            names[0] = "y"
        self.assertEqual(told, [["a", "b"], ["c"]])
        for names in list(book.classes()):
            names.clear()
        book.best().append("z")
        self.check_same(list(book.classes()), [["a", "b"], ["c"]])
        self.check(book.best, ["a", "b"])

    def test_several_walks_at_once_and_walks_that_stop_early(self):
        book = self.book_of(3, {"a": [(1, 2)], "b": [(2, 3)], "c": [(2, 3)]})
        other = self.book_of(3, {"x": [], "y": [(1, 3)]})
        first = book.classes()
        self.assertEqual(next(first), ["a"])
        second = book.classes()
        third = other.classes()
        self.assertEqual([next(third), next(second), next(first)], [["x"], ["a"], ["b", "c"]])
        self.assertEqual([list(first), list(third)], [[], [["y"]]])
        second.close()
        book.put("c", [(1, 2)])
        self.assertEqual(list(book.classes()), [["a", "c"], ["b"]])

    def test_books_keep_their_own_scripts(self):
        one, other = ScriptBook(3), ScriptBook(3)
        one.put("a", [(1, 2)])
        self.check_same([list(one.classes()), list(other.classes())], [[["a"]], []])

    def test_the_size_is_less_than_one(self):
        for size in (0, -1, -GREAT):
            self.check_error(ScriptBook, InvalidSize, size, size=size)

    def test_the_first_wrong_command(self):
        book = self.book_of(3, {"a": [(1, 2)], "b": [(1, 2), (2, 3)]})
        for commands, index in WRONG_SCRIPTS_OF_THREE:
            for name in ("a", "b", "c"):
                with self.subTest(commands=commands, name=name):
                    self.check_error(book.put, InvalidCommand, index, name=name, commands=commands)
                    self.check_same(list(book.classes()), [["a"], ["b"]])
                    self.check_same(book.best(), ["b"])


if __name__ == "__main__":
    unittest.main()

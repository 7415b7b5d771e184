"""Tests over the whole program: its functions agree with one another, as points 6 to 10 say."""

import itertools
import unittest

from sortstretches.backward import (
    gets_sorted, greatest_before, greatest_row, is_result, witness)
from sortstretches.completing import (
    ahead, behind, missing_ahead, missing_behind, one_ahead, one_behind)
from sortstretches.counting import count_sorted, count_sorted_bits, nth_sorted_bits, results
from sortstretches.effects import effect, joined, powered, result
from sortstretches.hidden import HiddenScript, find
from sortstretches.live import LiveRow, ScriptBook
from sortstretches.orders import sorts_at_least_as_far, worst_distance, worst_inversions
from sortstretches.readings import read_script
from sortstretches.repeating import blocks, count_unchanged, nth_unchanged, rounds, unchanged_number
from sortstretches.rows import inversions, is_at_most, run, stages
from sortstretches.scripts import exchanges, idle_commands, parting_row, same_scripts, trimmed
from sortstretches.texts import show_script
from tests.support import (
    GREAT, arrangements, random_arrangement, random_script, random_short_script, source_of)

MANY = 10 ** 9


def drawn(seed):
    """Return sizes, each with some scripts, from few and short commands to many and long ones."""
    source = source_of(seed)
    found = []
    for size in (1, 2, 3, 5, 8, 20, 60):
        lengths = (0, 1, 3, size, 3 * size, 200)
        scripts = [
            random_short_script(source, size, min(length, 200), longest)
            for length in lengths for longest in (2, 3, size)]
        found.append((size, scripts))
    return found


def rows_to_try(source, size):
    """Return arrangements, rows with equal values, and bit rows of a size."""
    found = [random_arrangement(source, size) for _ in range(4)]
    found += [[source.randint(-2, 2) for _ in range(size)] for _ in range(2)]
    found += [[source.randint(-GREAT, GREAT) for _ in range(size)]]
    return found + [[source.randint(0, 1) for _ in range(size)] for _ in range(3)]


class AgreementTest(unittest.TestCase):

    def test_the_effect_tells_what_a_script_does(self):
        source = source_of(131)
        for size, scripts in drawn(131):
            for script in scripts:
                wanted = effect(size, script)
                hidden = HiddenScript(size, script)
                for row in rows_to_try(source, size):
                    made = run(row, script)
                    self.assertEqual(result(row, wanted), made)
                    self.assertEqual(list(stages(row, script))[-1], made)
                    self.assertEqual(hidden.ask(row), made)
                    live = LiveRow(row)
                    live.perform(*script)
                    self.assertEqual([live.row, live.script], [made, script])
                    self.assertEqual(list(live.past()), list(stages(row, script)))
                    self.assertEqual(live.is_sorted, gets_sorted(row, script))

    def test_every_arrangement_is_an_effect(self):
        source = source_of(132)
        rows = [row for size in range(1, 6) for row in arrangements(size)]
        for row in rows + [random_arrangement(source, size) for size in (12, 30, 60, 60)]:
            script = exchanges(row)
            self.assertEqual(effect(len(row), script), row)
            self.assertEqual(find(HiddenScript(len(row), script)), script)
            self.assertEqual(read_script(show_script(script)), script)

    def test_scripts_that_do_the_same(self):
        source = source_of(133)
        for size, scripts in drawn(133):
            for script in scripts:
                places = source.sample(range(len(script) + 1), min(4, len(script)))
                padded = list(script)
                for place in sorted(places, reverse=True):
                    padded.insert(place, (size, size))
                others = [
                    trimmed(size, script), find(HiddenScript(size, script)), padded,
                    read_script(show_script(script)), exchanges(effect(size, script))]
                for other in others:
                    self.check_pair(size, script, other, True)

    def test_pairs_of_scripts(self):
        for size, scripts in drawn(134):
            for first, second in itertools.combinations(scripts[::2], 2):
                self.check_pair(size, first, second, effect(size, first) == effect(size, second))

    def check_pair(self, size, first, second, same):
        """Check all that tells whether two scripts do the same."""
        self.assertIs(same_scripts(size, first, second), same)
        row = parting_row(size, first, second)
        self.assertIs(row is None, same)
        if row is not None:
            self.assertNotEqual(run(row, first), run(row, second))
        one, other = LiveRow.descending(size), LiveRow.descending(size)
        one.perform(*first)
        other.perform(*second)
        self.assertIs(one == other, same)
        book = ScriptBook(size)
        book.put("first", first)
        book.put("second", second)
        self.assertEqual(list(book.classes()), [["first", "second"]] if same else [["first"], ["second"]])
        further = sorts_at_least_as_far(size, first, second)
        self.assertIs(further, is_at_most(effect(size, first), effect(size, second)))
        back = sorts_at_least_as_far(size, second, first)
        self.assertIs(further and back, same)
        best = ["first"] * (further or not back) + ["second"] * (back or not further)
        self.assertEqual(book.best(), best)

    def test_one_script_behind_another_one(self):
        source = source_of(135)
        for size, scripts in drawn(135):
            for first, second in itertools.combinations(scripts[::3], 2):
                both = first + second
                made = joined(effect(size, first), effect(size, second))
                self.assertEqual(made, effect(size, both))
                self.assertTrue(sorts_at_least_as_far(size, both, first))
                self.assertTrue(sorts_at_least_as_far(size, both, second))
                self.assertLessEqual(worst_inversions(size, both), worst_inversions(size, first))
                row = random_arrangement(source, size)
                self.assertEqual(
                    greatest_before(both, row), greatest_before(first, greatest_before(second, row)))

    def test_commands_that_do_nothing(self):
        for size, scripts in drawn(136):
            for script in scripts:
                idle = idle_commands(size, script)
                short = trimmed(size, script)
                self.assertEqual(len(short), len(script) - len(idle))
                self.assertEqual(idle_commands(size, short), [])
                self.assertEqual(trimmed(size, short), short)
                rest = [command for at, command in enumerate(script) if at not in idle]
                self.assertTrue(same_scripts(size, rest, script))
                for at in idle:
                    self.assertTrue(same_scripts(size, script[:at], script[:at + 1]))

    def test_rows_at_most_others(self):
        source = source_of(137)
        for size, scripts in drawn(137):
            up, down = list(range(1, size + 1)), list(range(size, 0, -1))
            for script in scripts:
                worst = effect(size, script)
                self.assertEqual(greatest_row(size, script), greatest_before(script, up))
                for row in [random_arrangement(source, size) for _ in range(3)]:
                    made = run(row, script)
                    self.assertTrue(is_at_most(up, row) and is_at_most(row, down))
                    self.assertTrue(is_at_most(made, row) and is_at_most(made, worst))
                    self.assertTrue(is_result(made, script))
                    self.assertTrue(is_at_most(row, greatest_before(script, made)))
                    self.assertEqual(run(greatest_before(script, made), script), made)
                    self.assertLessEqual(inversions(made), worst_inversions(size, script))
                    far = max(abs(value - place) for place, value in enumerate(made, start=1))
                    self.assertLessEqual(far, worst_distance(size, script))

    def test_the_greatest_row_that_gets_sorted(self):
        source = source_of(138)
        for size, scripts in drawn(138):
            for script in scripts:
                greatest = greatest_row(size, script)
                self.assertIsNone(witness(greatest, script))
                self.assertEqual(run(greatest, script), list(range(1, size + 1)))
                for row in [random_arrangement(source, size) for _ in range(3)] + [greatest]:
                    done = gets_sorted(row, script)
                    self.assertEqual(is_at_most(row, greatest), done)
                    value = witness(row, script)
                    self.assertEqual(value is None, done)
                    if value is not None:
                        bits = [0 if worth <= value else 1 for worth in row]
                        self.assertFalse(gets_sorted(bits, script))
                        self.assertIsNotNone(witness(bits, script))

    def test_what_is_missing(self):
        for size, scripts in drawn(139):
            for script in scripts:
                up = list(range(1, size + 1))
                missing = inversions(effect(size, script))
                self.assertEqual(missing_behind(size, script), missing)
                self.assertEqual(missing_ahead(size, script), missing)
                self.assertEqual(missing + inversions(greatest_row(size, script)), size * (size - 1) // 2)
                self.assertEqual(missing + len(exchanges(effect(size, script))), size * (size - 1) // 2)
                for longer in (script + behind(size, script), ahead(size, script) + script):
                    self.assertEqual(effect(size, longer), up)
                    self.assertEqual(greatest_row(size, longer), up[::-1])
                    self.assertIsNone(one_behind(size, longer))
                    self.assertIsNone(one_ahead(size, longer))
                if missing:
                    self.assertEqual(missing_behind(size, script + [one_behind(size, script)]), 0)
                    self.assertEqual(missing_ahead(size, [one_ahead(size, script)] + script), 0)
                self.assertEqual(one_behind(size, script) is None, missing == 0)
                self.assertEqual(one_ahead(size, script) is None, missing == 0)

    def test_rounds(self):
        for size, scripts in drawn(140):
            for script in scripts:
                many = rounds(size, script)
                wanted = effect(size, script)
                stable = powered(wanted, many)
                self.assertEqual(powered(wanted, MANY), stable)
                self.assertEqual(effect(size, script * many), stable)
                self.assertEqual(joined(stable, wanted), stable)
                if many:
                    self.assertNotEqual(powered(wanted, many - 1), stable)
                # Rounds without end sort each block and do nothing else.
                self.assertEqual(effect(size, blocks(size, script)), stable)
                row = run(list(range(size, 0, -1)), script * many)
                self.assertEqual(nth_unchanged(size, script, count_unchanged(size, script) - 1), stable)
                self.assertEqual(unchanged_number(script, row), count_unchanged(size, script) - 1)

    def test_counts(self):
        source = source_of(141)
        for size in range(1, 7):
            for length in (1, size, 3 * size):
                script = random_short_script(source, size, length, 3)
                rows = arrangements(size)
                done = [row for row in rows if gets_sorted(row, script)]
                self.assertEqual(count_sorted(size, script), len(done))
                made = list(results(size, script))
                self.assertEqual(made, [row for row in rows if is_result(row, script)])
                self.assertEqual(len(made) == 1, missing_behind(size, script) == 0)
                self.assertEqual(max(map(inversions, made)), worst_inversions(size, script))
                kept = [row for row in rows if unchanged_number(script, row) is not None]
                self.assertEqual(len(kept), count_unchanged(size, script))
                for zeros in range(size + 1):
                    many = count_sorted_bits(size, script, zeros)
                    for number in range(many):
                        bits = nth_sorted_bits(size, script, zeros, number)
                        self.assertTrue(gets_sorted(bits, script))
                    # Each of them shows in some arrangement that gets sorted.
                    shown = {tuple(0 if value <= zeros else 1 for value in row) for row in done}
                    self.assertEqual(len(shown), many)

    def test_texts(self):
        source = source_of(142)
        for size, scripts in drawn(142):
            for script in scripts + [random_script(source, size, 200)]:
                self.assertEqual(read_script(show_script(script)), script)
                for other in (trimmed(size, script), find(HiddenScript(size, script))):
                    self.assertTrue(same_scripts(size, read_script(show_script(other)), script))


if __name__ == "__main__":
    unittest.main()

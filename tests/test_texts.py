"""Tests of sortstretches.texts and sortstretches.readings (points 2, 3 and 4)."""

import itertools
import re
import unittest

from sortstretches.errors import Unreadable
from sortstretches.readings import read_script
from sortstretches.scripts import exchanges
from sortstretches.texts import show_script
from tests.support import (
    GREAT, CallTest, random_script, random_short_script, source_of, wide_scripts)

NINES = int("9" * 40)

# Scripts and their texts.
TEXTS = [
    ([], "none"),
    ([(1, 1)], "1"),
    ([(1, 2)], "1-2"),
    ([(1, 3), (2, 4), (2, 4), (5, 5)], "1-3 2-4*2 5"),
    ([(5, 5), (5, 5), (5, 5)], "5*3"),
    ([(1, 2), (1, 3), (1, 2)], "1-2 1-3 1-2"),
    ([(1, 2), (1, 2), (3, 3), (3, 3), (1, 2), (1, 2)], "1-2*2 3*2 1-2*2"),
    ([(1, 1), (1, 2), (1, 1)], "1 1-2 1"),
    ([(1, 2), (2, 2), (1, 1)], "1-2 2 1"),
    ([(2, 10), (10, 20), (9, 10)], "2-10 10-20 9-10"),
    ([(1, 60)] * 200, "1-60*200"),
    ([(1, 2)] * 9 + [(2, 3)] * 10 + [(3, 4)] * 100, "1-2*9 2-3*10 3-4*100"),
    ([(GREAT, GREAT)], "1" + "0" * 30),
    ([(1, GREAT), (1, GREAT)], "1-1" + "0" * 30 + "*2"),
    ([(GREAT - 1, GREAT)], "9" * 30 + "-1" + "0" * 30),
    ([(NINES, NINES)], "9" * 40),
    ([(NINES - 1, NINES)], "9" * 39 + "8-" + "9" * 40),
    ([(10 ** 39, NINES)] * 2, "1" + "0" * 39 + "-" + "9" * 40 + "*2"),
]

# Texts that no script has.
WRONG_TEXTS = [
    "", " ", "  ", "   ",
    "None", "NONE", "none ", " none", "none none", "none 1", "1 none", "none*2", "none-1", "n", "non", "nonee",
    "0", "00", "0-1", "0-0", "1-0", "-1", "-1-2", "+1", "1-", "-", "--", "1--2", "1-2-3", "1-2-", "-1-2-3",
    "3-1", "2-1", "10-9", "1-1", "2-2", "10-10", "1-1*2", "2-1*2",
    "01", "01-2", "1-02", "001", "1-2*02", "1*02", "0001-0002",
    "1*1", "1-2*1", "1*0", "1-2*0", "1*00", "1*-1", "1*-2", "1*+2", "1*", "1-2*", "*", "*2", "*1", "-*2",
    "1**2", "1*2*3", "1*2-3", "1-2*2-3", "1*2*", "1-*2", "2*2*2",
    "1 1", "1-2 1-2", "3 1 1", "1 1 2", "1*2 1", "1 1*2", "1*2 1*2", "1-2*3 1-2*2", "2 1-2*2 1-2",
    " 1", "1 ", " 1 ", "1  2", "1 2  3", "1 -2", "1- 2", "1 - 2", "1 *2", "1* 2", "1-2 *2", "1-2 ", " 1-2",
    "1,2", "1-2,3", "(1, 2)", "1.0", "1e3", "1_0", "0x1", "a", "1a", "a1", "1-b", "1*c", "~", "!", "1;", "1=1",
    "1/2", "1:2", "[1-2]", "1-2*two", "#1", "1-2!",
    "1" + "0" * 40, "9" * 41, "1-1" + "0" * 40, "1" * 41 + "-" + "2" * 41, "0" + "9" * 40,
    "\u00b2", "1-\u0663", "2*\u00b2", "\u00a0", "1\n", "1\t2",
    "1*2 " + "9" * 41, "1" * 100, "9" * 4000, "1-" + "9" * 3998,
]

WORD = re.compile("([1-9][0-9]*)(-([1-9][0-9]*))?([*]([1-9][0-9]*))?")


def plain_read(text):
    """Return the script of a text, or None if no script has it, word by word."""
    if text == "none":
        return []
    groups = []
    for word in text.split(" "):
        found = WORD.fullmatch(word)
        if found is None:
            return None
        first, _, last, _, times = found.groups()
        if last is not None and int(last) <= int(first) or times == "1":
            return None
        groups.append((int(first), int(last or first), int(times or 1)))
    if any(one[:2] == other[:2] for one, other in zip(groups, groups[1:])):
        return None
    return [(i, j) for i, j, times in groups for _ in range(times)]


def drawn_scripts():
    """Return scripts with many equal neighbours, of small and of great places."""
    source = source_of(101)
    found = wide_scripts()
    for length in range(1, 41):
        for size in (1, 2, 3, 12):
            found.append(random_script(source, size, length))
            found.append(random_short_script(source, size, length, 2))
        great = [tuple(sorted([source.randint(1, GREAT), source.randint(1, GREAT)])) for _ in range(length)]
        found.append([command for command in great for _ in range(source.randint(1, 4))])
    return found


class ShowScriptTest(CallTest):

    def test_home(self):
        self.check_home(show_script, "sortstretches.texts", ["commands"])

    def test_texts(self):
        for commands, text in TEXTS:
            self.check(show_script, text, commands=commands)

    def test_what_is_shown_is_read_as_the_script(self):
        for commands in drawn_scripts() + [commands for commands, _ in TEXTS]:
            text = show_script(commands)
            self.check(show_script, text, commands=commands)
            self.check(read_script, commands, text=text)

    def test_the_text_of_a_drawn_script(self):
        for commands in drawn_scripts():
            words = []
            for (i, j), equal in itertools.groupby(commands):
                many = len(list(equal))
                words.append((f"{i}" if i == j else f"{i}-{j}") + (f"*{many}" if many > 1 else ""))
            self.check(show_script, " ".join(words), commands=commands)

    def test_what_is_returned_may_be_passed_on(self):
        script = exchanges(list(range(1, 61)))
        self.assertEqual(len(script), 1770)
        self.check(read_script, script, text=show_script(script))


class ReadScriptTest(CallTest):

    def test_home(self):
        self.check_home(read_script, "sortstretches.readings", ["text"])

    def test_texts(self):
        for commands, text in TEXTS:
            self.check(read_script, commands, text=text)

    def test_texts_that_no_script_has(self):
        for text in WRONG_TEXTS:
            with self.subTest(text=text):
                self.check_error(read_script, Unreadable, text, text=text)

    def test_one_wrong_word_among_others(self):
        for text in WRONG_TEXTS:
            if text and " " not in text and text != "none":
                for longer in (f"{text} 7-8", f"7-8 {text}", f"7-8 {text} 7-8*3"):
                    with self.subTest(text=longer):
                        self.check_error(read_script, Unreadable, longer, text=longer)

    def test_numbers_of_forty_digits_and_more(self):
        for digits in (1, 2, 39, 40):
            self.check(read_script, [(10 ** (digits - 1),) * 2], text="1" + "0" * (digits - 1))
            many = int("7" * digits)
            self.check(read_script, [(many, many + 1)] * 2, text=f"{many}-{many + 1}*2")
        for digits in (41, 42, 100):
            for text in ("7" * digits, f"1-{'7' * digits}", f"{'7' * digits}-{'8' * digits}", f"{'7' * digits}*2"):
                self.check_error(read_script, Unreadable, text, text=text)
        # A command whose number has more digits may still be shown.
        self.check(show_script, "1" + "0" * 40, commands=[(10 ** 40, 10 ** 40)])

    def test_every_short_text(self):
        read = 0
        for length in range(6):
            for signs in itertools.product("012-* ", repeat=length):
                text = "".join(signs)
                wanted = plain_read(text)
                if wanted is None:
                    self.check_error(read_script, Unreadable, text, text=text)
                else:
                    read += 1
                    self.check(read_script, wanted, text=text)
                    self.assertEqual(show_script(wanted), text)
        self.assertGreater(read, 100)

    def test_every_sign_in_every_place(self):
        text = "1-3 2-4*2 5"
        for at in range(len(text) + 1):
            for sign in map(chr, range(32, 127)):
                for changed in (text[:at] + sign + text[at:], text[:at] + sign + text[at + 1:]):
                    wanted = plain_read(changed)
                    if wanted is None:
                        self.check_error(read_script, Unreadable, changed, text=changed)
                    else:
                        self.check(read_script, wanted, text=changed)
                        self.assertEqual(show_script(wanted), changed)

    def test_long_texts(self):
        numbers = [f"{i}-{i + 1}" for i in range(1, 440)]
        text = " ".join(numbers)[:4000].rsplit(" ", 1)[0]
        self.check(read_script, plain_read(text), text=text)
        text = " ".join(["1*100", "2*100"] * 333)
        self.assertEqual(len(text), 3995)
        self.check(read_script, ([(1, 1)] * 100 + [(2, 2)] * 100) * 333, text=text)
        for wrong in (text + " ", text + " 2", text + " 2*2", " " + text, "1 " + text):
            self.check_error(read_script, Unreadable, wrong, text=wrong)
        self.check(read_script, [(1, 1)] * 101, text="1*101")

    def test_a_returned_script_may_be_changed(self):
        for text in ("none", "1-2 3"):
            first = read_script(text)
            wanted = list(first)
            first.append((9, 9))
            self.assertEqual(read_script(text), wanted)


if __name__ == "__main__":
    unittest.main()

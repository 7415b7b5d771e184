"""Readings of texts of scripts."""

from sortstretches.errors import Unreadable
from sortstretches.texts import show_script

LONGEST = 40


def read_number(word):
    """Return the number that is written so, or 0 if none is: all numbers of a text are at least 1."""
    if not word.isascii() or not word.isdigit() or len(word) > LONGEST:
        return 0
    return int(word)


def read_word(word):
    """Return the script of a word, such as 2-4*3, or an empty one if no word is written so."""
    shown, star, times = word.partition("*")
    start, dash, end = shown.partition("-")
    first = read_number(start)
    last = read_number(end) if dash else first
    many = read_number(times) if star else 1
    if first == 0 or last < first:
        return []
    return [(first, last)] * many


def read_script(text):
    """Return the script of a text."""
    if text == "none":
        return []
    commands = []
    for word in text.split(" "):
        found = read_word(word)
        if not found:
            raise Unreadable(text)
        commands.extend(found)
    # A script has one text only: this keeps out 01, 1-1, 2*1, and equal neighbours written apart.
    if show_script(commands) != text:
        raise Unreadable(text)
    return commands

"""Repeating: when a script becomes stable, and the arrangements that it leaves as they are."""

from math import comb

from sortstretches.checks import check_arrangement, check_script, check_size, check_sized_script
from sortstretches.effects import descending_row
from sortstretches.errors import InvalidNumber
from sortstretches.rows import run, sort_stretches


def rounds(size, commands):
    """Return the least number of rounds after which further ones change nothing for any row."""
    check_size(size)
    # What so many rounds do to all rows shows in what they make of the descending arrangement.
    present = descending_row(size)
    further = run(present, commands)
    many = 0
    while further != present:
        present = further
        further = sort_stretches(present, commands)
        many += 1
    return many


def linked_blocks(size, commands):
    """Return the blocks of a script that has been checked for a size."""
    linked = [False] * size
    for first, last in commands:
        for place in range(first, last):
            linked[place - 1] = True
    found = []
    start = 1
    for place, goes_on in enumerate(linked, start=1):
        if not goes_on:
            found.append((start, place))
            start = place + 1
    return found


def blocks(size, commands):
    """Return the blocks as tuples (first place, last place): commands link the places of a block."""
    check_sized_script(size, commands)
    return linked_blocks(size, commands)


def block_lengths(size, commands):
    """Return the numbers of places of the blocks of a script that has been checked."""
    return [last - first + 1 for first, last in linked_blocks(size, commands)]


def count_unchanged(size, commands):
    """Return the number of arrangements that a script does not change."""
    check_sized_script(size, commands)
    # Each command must find its stretch ascending, so each block must ascend: such an arrangement
    # is told by the values that each block holds.
    many = 1
    left = size
    for length in block_lengths(size, commands):
        many *= comb(left, length)
        left -= length
    return many


def nth_choice(values, length, number):
    """Return the choice with a number of so many of these ascending values, in the order of lists."""
    chosen = []
    left = number
    for index, value in enumerate(values):
        if len(chosen) == length:
            break
        many = comb(len(values) - index - 1, length - len(chosen) - 1)
        if left < many:
            chosen.append(value)
        else:
            left -= many
    return chosen


def choice_number(values, chosen):
    """Return the number of an ascending choice of these ascending values, in the order of lists."""
    number = 0
    found = 0
    for index, value in enumerate(values):
        if found == len(chosen):
            break
        if value == chosen[found]:
            found += 1
        else:
            number += comb(len(values) - index - 1, len(chosen) - found - 1)
    return number


def nth_unchanged(size, commands, number):
    """Return the arrangement with a number, from 0 on, of those that a script does not change."""
    many = count_unchanged(size, commands)
    if number < 0 or number >= many:
        raise InvalidNumber(number)
    row = []
    values = list(range(1, size + 1))
    left = number
    # The number of the choice for a block counts as often as the blocks behind it can be filled.
    for length in block_lengths(size, commands):
        many //= comb(len(values), length)
        choice, left = divmod(left, many)
        chosen = nth_choice(values, length, choice)
        row.extend(chosen)
        values = [value for value in values if value not in chosen]
    return row


def unchanged_number(commands, row):
    """Return the number of an arrangement that a script does not change, or None if it changes it."""
    check_arrangement(row)
    check_script(len(row), commands)
    if sort_stretches(row, commands) != row:
        return None
    number = 0
    values = sorted(row)
    for first, last in linked_blocks(len(row), commands):
        chosen = row[first - 1:last]
        number *= comb(len(values), len(chosen))
        number += choice_number(values, chosen)
        values = [value for value in values if value not in chosen]
    return number


def turns(alone, shared, other):
    """Return how many commands sort every row if two overlapping stretches are sorted by turns.

    The left one, which comes first, has `alone` places of its own, the right one `other`
    ones; `shared` places belong to both.
    """
    if alone < 0:
        raise InvalidNumber(alone)
    if shared < 1:
        raise InvalidNumber(shared)
    if other < 0:
        raise InvalidNumber(other)
    if alone + shared + other == 1:
        return 0
    # Each two turns carry as many values as are shared to where they belong. Either the greatest
    # values fill the own places of the right one, beginning with the first turn, and the left one
    # sorts the rest; or the least values fill those of the left one, beginning with the second
    # turn, and the right one sorts the rest. Rows that need all turns of the shorter way exist.
    left_fills = (alone + shared - 1) // shared
    right_fills = (other + shared - 1) // shared
    return min(2 * right_fills + 1, 2 * left_fills + 2)

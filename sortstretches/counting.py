"""Counting: how many rows a script sorts, which bit rows it sorts, and what it makes of arrangements."""

from sortstretches.backward import greatest_row, is_result
from sortstretches.errors import InvalidNumber
from sortstretches.scripts import trimmed


def needed_zeros(size, commands, zeros):
    """Return how many zeros the first places hold at least, for each number of places from 0 on.

    A bit row with so many zeros gets sorted exactly if its first places hold enough of them.
    """
    # It is the bits of some arrangement that gets sorted, so that it is at most, as arrangements
    # are, the bits of the greatest one. Its zeros stand for the values of at most their number.
    before = greatest_row(size, commands)
    if zeros < 0 or zeros > size:
        raise InvalidNumber(zeros)
    needed = [0]
    for value in before:
        needed.append(needed[-1] + (1 if value <= zeros else 0))
    return needed


def ways_to_go_on(needed):
    """Return in how many ways a bit row can go on: at [many][found] behind many places with found zeros."""
    zeros = needed[-1]
    # A last column without any ways keeps the table within reach of one zero too many.
    ways = [[0] * zeros + [1, 0]]
    for least in needed[-2::-1]:
        further = ways[-1]
        here = [further[found] + further[found + 1] if found >= least else 0 for found in range(zeros + 1)]
        ways.append([*here, 0])
    return ways[::-1]


def count_sorted_bits(size, commands, zeros):
    """Return the number of bit rows with so many zeros that get sorted."""
    ways = ways_to_go_on(needed_zeros(size, commands, zeros))
    return ways[0][0]


def nth_sorted_bits(size, commands, zeros, number):
    """Return the bit row with a number, from 0 on, of those with so many zeros that get sorted."""
    ways = ways_to_go_on(needed_zeros(size, commands, zeros))
    if number < 0 or number >= ways[0][0]:
        raise InvalidNumber(number)
    row = []
    found = 0
    left = number
    for further in ways[1:]:
        with_zero = further[found + 1]
        if left < with_zero:
            row.append(0)
            found += 1
        else:
            row.append(1)
            left -= with_zero
    return row


def longer_beginnings(many, limits):
    """Return in how many ways the first values can be chosen, one more than in a dict of such ways.

    Each key holds the values ascending. One by one, they are at most the limits.
    """
    longer = {}
    for held, ways in many.items():
        for value in range(1, limits[-1] + 1):
            values = tuple(sorted([*held, value]))
            if value not in held and all([mine <= limit for mine, limit in zip(values, limits)]):
                longer[values] = longer.get(values, 0) + ways
    return longer


def count_sorted(size, commands):
    """Return the number of arrangements that get sorted."""
    before = greatest_row(size, commands)
    # An arrangement is at most another one exactly if, for all p, its first p values in ascending
    # order are at most those of the other one. Their order plays no part: sets of them are counted.
    many = {(): 1}
    for place in range(1, size + 1):
        many = longer_beginnings(many, sorted(before[:place]))
    return many[tuple(range(1, size + 1))]


def next_arrangement(row):
    """Return the arrangement behind an arrangement in ascending order, or None if it is the last one."""
    start = len(row) - 1
    while start > 0 and row[start - 1] > row[start]:
        start -= 1
    if start == 0:
        return None
    # The rest descends from here on: the value ahead of it must give way to the next greater one.
    old = row[start - 1]
    new = min([value for value in row[start:] if value > old])
    rest = [value for value in row[start - 1:] if value != new]
    return [*row[:start - 1], new, *sorted(rest)]


def results(size, commands):
    """Yield all arrangements that a script makes of arrangements, each once, ascending."""
    # The trimmed script does the same, and has at most as many commands as there are pairs of places.
    short = trimmed(size, commands)
    row = list(range(1, size + 1))
    while row is not None:
        further = next_arrangement(row)
        if is_result(row, short):
            yield row
        row = further

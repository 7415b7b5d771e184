"""Rows: what scripts make of them, and how two arrangements compare."""

from sortstretches.checks import check_arrangement, check_sized_script
from sortstretches.errors import UnequalSizes


def sort_stretches(row, commands):
    """Return the row that a script makes of a row, both of which have been checked."""
    present = list(row)
    for first, last in commands:
        present[first - 1:last] = sorted(present[first - 1:last])
    return present


def run(row, commands):
    """Return the row that a script makes of a row."""
    check_sized_script(len(row), commands)
    return sort_stretches(row, commands)


def stages(row, commands):
    """Yield the row and the rows after each command of a script."""
    check_sized_script(len(row), commands)
    present = list(row)
    # Each row that is given away is a copy, so that the caller may change it during the walk.
    yield list(present)
    for first, last in commands:
        present[first - 1:last] = sorted(present[first - 1:last])
        yield list(present)


def is_at_most(first, second):
    """Return True if an arrangement is at most another one, otherwise False."""
    check_arrangement(first)
    check_arrangement(second)
    if len(first) != len(second):
        raise UnequalSizes(None)
    # lead[limit]: how many more values of at most limit the first one has so far than the second one.
    lead = [0] * len(first)
    for mine, other in zip(first, second):
        for limit in range(mine, other):
            lead[limit] += 1
        for limit in range(other, mine):
            lead[limit] -= 1
            if lead[limit] < 0:
                return False
    return True


def inversions(row):
    """Return the number of pairs of places of which the earlier one holds the greater value."""
    many = 0
    for place, value in enumerate(row):
        many += len([later for later in row[place + 1:] if later < value])
    return many

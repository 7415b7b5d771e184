"""Backward: which rows a script sorts, and which ones it leads to a given one."""

from sortstretches.checks import check_arrangement, check_script, check_size
from sortstretches.rows import run, sort_stretches


def greatest_row(size, commands):
    """Return the greatest arrangement that gets sorted."""
    check_size(size)
    return greatest_before(commands, list(range(1, size + 1)))


def greatest_before(commands, row):
    """Return the greatest arrangement that a script leads to at most an arrangement."""
    check_arrangement(row)
    check_script(len(row), commands)
    present = list(row)
    # Of all that a command leads to at most a row, the greatest one has the stretch of this row
    # the other way round. So the script is walked from its last command to its first one.
    for first, last in reversed(commands):
        present[first - 1:last] = sorted(present[first - 1:last], reverse=True)
    return present


def gets_sorted(row, commands):
    """Return True if a script makes an ascending row of a row, otherwise False."""
    made = run(row, commands)
    return made == sorted(made)


def witness(row, commands):
    """Return None if a row gets sorted, otherwise a value whose bit row does not get sorted.

    This bit row has 0 where the row has at most this value, and 1 elsewhere.
    """
    made = run(row, commands)
    for earlier, later in zip(made, made[1:]):
        if earlier > later:
            # In the bits of what is made, a 1 stands before a 0 here, as the values do.
            return later
    return None


def is_result(row, commands):
    """Return True if a script makes this arrangement of some arrangement, otherwise False."""
    # An arrangement of which the script makes the row is at most the greatest one before. So what
    # it makes of that one is at least the row, and it is at most the row anyway.
    before = greatest_before(commands, row)
    return sort_stretches(before, commands) == row

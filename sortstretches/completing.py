"""Completing: what is missing behind a script, or ahead of it, until it sorts every row."""

from sortstretches.backward import greatest_row
from sortstretches.effects import descending_row, effect
from sortstretches.rows import inversions
from sortstretches.scripts import changed_stretch, exchanges


def missing_behind(size, commands):
    """Return the least number of commands (i, i + 1) that must be put behind a script."""
    # A script sorts every row exactly if its effect ascends. Each exchange of neighbours takes at
    # most one inversion from it, and as long as there are inversions, one of them takes one.
    return inversions(effect(size, commands))


def missing_ahead(size, commands):
    """Return the least number of commands (i, i + 1) that must be put ahead of a script."""
    # A script sorts every row exactly if its commands do so in the reverse order: what must be put
    # ahead of the one must be put behind the other, whose effect has as many inversions.
    return missing_behind(size, commands)


def behind(size, commands):
    """Return a script of commands (i, i + 1) to be put behind a script, as short as possible."""
    made = effect(size, commands)
    # With each value counted from the other end, and in the reverse order, the way from the effect
    # to the ascending arrangement is a way from the descending arrangement.
    mirrored = [size + 1 - value for value in made]
    return exchanges(mirrored)[::-1]


def ahead(size, commands):
    """Return a script of commands (i, i + 1) to be put ahead of a script, as short as possible."""
    # All that it makes gets sorted exactly if its effect does, which is at most the greatest row
    # then; the greatest row itself is the nearest one to the descending arrangement among these.
    before = greatest_row(size, commands)
    return exchanges(before)


def stretch_of_differences(first, second):
    """Return the shortest command that holds all places at which two rows differ, or None."""
    if first == second:
        return None
    return changed_stretch(first, second)


def one_behind(size, commands):
    """Return the shortest command that makes a script sort every row from behind, or None."""
    made = effect(size, commands)
    return stretch_of_differences(made, sorted(made))


def one_ahead(size, commands):
    """Return the shortest command that makes a script sort every row from ahead, or None."""
    # What the command makes of the descending arrangement must be at most the greatest row. Outside
    # of its stretch it leaves the greatest values first and the least ones last: so must this row.
    before = greatest_row(size, commands)
    return stretch_of_differences(descending_row(size), before)

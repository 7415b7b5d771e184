"""Scripts: which ones do the same, which of their commands count, and the ones of fewest exchanges."""

from sortstretches.checks import check_arrangement, check_size
from sortstretches.effects import descending_row, effect, exchange_places
from sortstretches.rows import stages


def bits_above(row, limit):
    """Return the bit row that has 1 where a row has a value above a limit."""
    return [1 if value > limit else 0 for value in row]


def changes(size, commands):
    """Return, for each command, the rows before and after it, from the descending arrangement on.

    A command that changes nothing there leaves the effect as it was, and so changes no row at its turn.
    """
    # The walk itself sees only the row, which is empty for all sizes that are less than 1.
    check_size(size)
    start = descending_row(size)
    rows = list(stages(start, commands))
    return list(zip(rows, rows[1:]))


def changed_stretch(before, after):
    """Return the first and the last place at which two rows differ."""
    places = [place for place, (old, new) in enumerate(zip(before, after), start=1) if old != new]
    return places[0], places[-1]


def same_scripts(size, first, second):
    """Return True if two scripts do the same for a size, otherwise False."""
    return effect(size, first) == effect(size, second)


def parting_row(size, first, second):
    """Return a bit row of which two scripts make different rows, or None if they do the same."""
    made = effect(size, first)
    other = effect(size, second)
    for mine, theirs in zip(made, other):
        if mine != theirs:
            # Sorting heeds only which value is greater: what is done to the bits are the bits of
            # what is done to the values. At this place one of them is above the limit, one is not.
            return bits_above(descending_row(size), min(mine, theirs))
    return None


def idle_commands(size, commands):
    """Return the ascending list of the indexes of all commands that change no row at their turn."""
    return [index for index, (before, after) in enumerate(changes(size, commands)) if before == after]


def trimmed(size, commands):
    """Return the script without its idle commands, with each other one as short as possible."""
    # What a sorted stretch holds outside of the first and the last change was in its place already.
    return [changed_stretch(before, after) for before, after in changes(size, commands) if before != after]


def exchanges(wanted):
    """Return a script of as few commands (i, i + 1) as possible that has an effect."""
    check_arrangement(wanted)
    return [(place, place + 1) for place in exchange_places(wanted)]

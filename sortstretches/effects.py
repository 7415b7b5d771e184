"""Effects: what scripts make of the descending arrangement, which tells all that they do."""

from sortstretches.checks import check_arrangement, check_size
from sortstretches.errors import InvalidNumber, UnequalSizes
from sortstretches.rows import run


def descending_row(size):
    """Return the arrangement of a size that descends from the size to 1."""
    return list(range(size, 0, -1))


def exchange_places(wanted):
    """Return the places whose sorting with the place behind them, in this order, has an effect.

    Their number is the least possible one: each of them exchanges two values on the
    way from the descending arrangement to the effect.
    """
    present = list(wanted)
    places = []
    # The way is walked backward, from the effect to the descending arrangement.
    for end in range(1, len(present)):
        place = end
        while place > 0 and present[place - 1] < present[place]:
            present[place - 1], present[place] = present[place], present[place - 1]
            places.append(place)
            place -= 1
    return places[::-1]


def sort_neighbours(row, places):
    """Return the row after each place in turn is sorted together with the place behind it."""
    present = list(row)
    for place in places:
        if present[place - 1] > present[place]:
            present[place - 1], present[place] = present[place], present[place - 1]
    return present


def effect(size, commands):
    """Return the effect of a script."""
    check_size(size)
    return run(descending_row(size), commands)


def result(row, wanted):
    """Return the row that a script with an effect makes of a row."""
    check_arrangement(wanted)
    if len(row) != len(wanted):
        raise UnequalSizes(None)
    # Scripts with one effect do the same, so that the one of exchanges may stand for all of them.
    return sort_neighbours(row, exchange_places(wanted))


def joined(first, second):
    """Return the effect of a script with one effect, followed by a script with another effect."""
    check_arrangement(first)
    # The second script goes on with what the first one has made of the descending arrangement.
    return result(first, second)


def powered(wanted, times):
    """Return the effect of a script with an effect that is run so many times."""
    check_arrangement(wanted)
    if times < 0:
        raise InvalidNumber(times)
    places = exchange_places(wanted)
    present = descending_row(len(wanted))
    left = times
    while left > 0:
        further = sort_neighbours(present, places)
        # A round that changes nothing is followed by such rounds only: great numbers of times end here.
        if further == present:
            return present
        present = further
        left -= 1
    return present

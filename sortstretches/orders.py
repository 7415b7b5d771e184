"""Orders: which script sorts further, and how unsorted the rows of a script can be."""

from sortstretches.effects import effect
from sortstretches.rows import inversions, is_at_most


def sorts_at_least_as_far(size, first, second):
    """Return True if the first script sorts at least as far as the second one, otherwise False."""
    made = effect(size, first)
    other = effect(size, second)
    return is_at_most(made, other)


def worst_inversions(size, commands):
    """Return the greatest number of inversions that the rows have which a script makes."""
    # All these rows are at most the effect, and an arrangement has at least as many inversions
    # as the ones that are at most it.
    return inversions(effect(size, commands))


def worst_distance(size, commands):
    """Return the greatest distance of a value from its own place in the rows that a script makes."""
    # All these rows are at most the effect. If in an arrangement the first p values are at most
    # p + d, for all p, they are so in the ones that are at most it; the other direction likewise.
    made = effect(size, commands)
    return max([abs(value - place) for place, value in enumerate(made, start=1)])

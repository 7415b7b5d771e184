"""The checks that many functions begin with."""

from sortstretches.errors import InvalidCommand, InvalidRow, InvalidSize


def check_size(size):
    """Raise InvalidSize if a size is less than 1."""
    if size < 1:
        raise InvalidSize(size)


def check_script(size, commands):
    """Raise InvalidCommand for the first command that does not fit rows of a size."""
    for index, (first, last) in enumerate(commands):
        if first < 1 or last < first or last > size:
            raise InvalidCommand(index)


def check_sized_script(size, commands):
    """Check a size, then a script for it."""
    check_size(size)
    check_script(size, commands)


def check_arrangement(row):
    """Raise InvalidRow for the first value that keeps a row from being an arrangement."""
    seen = set()
    for index, value in enumerate(row):
        if value < 1 or value > len(row) or value in seen:
            raise InvalidRow(index)
        seen.add(value)

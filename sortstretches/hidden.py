"""Hidden scripts, and how one question finds what they do."""

from sortstretches.checks import check_sized_script
from sortstretches.effects import descending_row
from sortstretches.errors import UnequalSizes
from sortstretches.rows import sort_stretches
from sortstretches.scripts import exchanges


class HiddenScript:
    """A script that shows itself only by what it makes of rows."""

    def __init__(self, size, commands):
        check_sized_script(size, commands)
        self._size = size
        self._commands = list(commands)
        self._questions = 0

    @property
    def size(self):
        """The number of places of the rows that it takes."""
        return self._size

    @property
    def questions(self):
        """How many times `ask` has returned."""
        return self._questions

    def ask(self, row):
        """Return the row that the script makes of a row."""
        if len(row) != self._size:
            raise UnequalSizes(None)
        made = sort_stretches(row, self._commands)
        self._questions += 1
        return made


def find(hidden):
    """Return a script of as few commands (i, i + 1) as possible that does the same as a hidden one."""
    # The effect tells all that a script does, so that no second question is needed.
    wanted = hidden.ask(descending_row(hidden.size))
    return exchanges(wanted)

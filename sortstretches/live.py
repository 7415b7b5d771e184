"""Rows whose stretches are sorted one by one, and books of scripts with names."""

from sortstretches.checks import check_script, check_size
from sortstretches.effects import descending_row, effect
from sortstretches.errors import NothingToUndo
from sortstretches.rows import is_at_most, sort_stretches


class LiveRow:
    """A row whose stretches are sorted, and all that was done to it."""

    def __init__(self, row):
        check_size(len(row))
        self._commands = []
        # The rows from the start on, one more than there are commands, and next to each of them
        # what the commands up to it make of the descending arrangement: it tells what they do.
        self._rows = [list(row)]
        self._effects = [descending_row(len(row))]

    @classmethod
    def descending(cls, size):
        """Return an object for the descending arrangement of a size."""
        check_size(size)
        return cls(descending_row(size))

    def __eq__(self, other):
        return (isinstance(other, LiveRow) and self._rows[0] == other._rows[0]
                and self._effects[-1] == other._effects[-1])

    @property
    def row(self):
        """The present row."""
        return list(self._rows[-1])

    @property
    def script(self):
        """The commands so far."""
        return list(self._commands)

    @property
    def is_sorted(self):
        """True if the present row is ascending, otherwise False."""
        return self._rows[-1] == sorted(self._rows[-1])

    def perform(self, *commands):
        """Run any number of commands."""
        check_script(len(self._rows[0]), commands)
        for command in commands:
            self._commands.append(command)
            self._rows.append(sort_stretches(self._rows[-1], [command]))
            self._effects.append(sort_stretches(self._effects[-1], [command]))

    def undo(self):
        """Take back the last command."""
        if not self._commands:
            raise NothingToUndo(0)
        self._commands.pop()
        self._rows.pop()
        self._effects.pop()

    def past(self):
        """Yield the row at the start and after each command so far."""
        for row in self._rows:
            yield list(row)


def is_outdone(mine, effects):
    """Return True if another one of these effects is at most this one, otherwise False."""
    for other in effects:
        if other != mine and is_at_most(other, mine):
            return True
    return False


class ScriptBook:
    """Scripts with names, told apart by what they do."""

    def __init__(self, size):
        check_size(size)
        self._size = size
        self._effects = {}

    def put(self, name, commands):
        """Keep a script under a name, in place of an earlier one."""
        self._effects[name] = effect(self._size, commands)

    def classes(self):
        """Yield lists of names, ascending within and by their first names: one for all that do the same."""
        together = {}
        for name in sorted(self._effects):
            together.setdefault(tuple(self._effects[name]), []).append(name)
        for names in together.values():
            yield names

    def best(self):
        """Return the ascending list of the names of the scripts that no other one outdoes.

        A script outdoes another one if it sorts at least as far and does not do the same.
        """
        effects = list(self._effects.values())
        return [name for name in sorted(self._effects) if not is_outdone(self._effects[name], effects)]

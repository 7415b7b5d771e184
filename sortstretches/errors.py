"""The errors that the program raises."""


class SortError(ValueError):
    """What every error of the program is."""


class InvalidSize(SortError):
    """A size is less than 1; the value is the size."""

    def __init__(self, value):
        self.value = value


class InvalidCommand(SortError):
    """A command does not fit the row; the value is its index in the script."""

    def __init__(self, value):
        self.value = value


class InvalidRow(SortError):
    """A row is not an arrangement; the value is the index of its first wrong value."""

    def __init__(self, value):
        self.value = value


class InvalidNumber(SortError):
    """A number is out of its range; the value is the number."""

    def __init__(self, value):
        self.value = value


class UnequalSizes(SortError):
    """Two rows that belong together differ in size; the value is None."""

    def __init__(self, value):
        self.value = value


class NothingToUndo(SortError):
    """There is no command to take back; the value is 0."""

    def __init__(self, value):
        self.value = value


class Unreadable(SortError):
    """No script has this text; the value is the text."""

    def __init__(self, value):
        self.value = value

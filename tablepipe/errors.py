"""The errors that the functions and classes of the package raise."""


class TableError(ValueError):
    """The base class of all errors of the package."""


class InvalidWidth(TableError):
    """The width, which is less than 1."""

    def __init__(self, value):
        self.value = value


class InvalidCommand(TableError):
    """The index of the first element of a pipeline that is not a command."""

    def __init__(self, value):
        self.value = value


class InvalidTable(TableError):
    """The index of the first row that has another number of values than the width says."""

    def __init__(self, value):
        self.value = value


class InvalidForm(TableError):
    """The index of the first impossible rule, or the number of rules if only the order is impossible."""

    def __init__(self, value):
        self.value = value


class InvalidIndex(TableError):
    """An index or a position at which there is no row."""

    def __init__(self, value):
        self.value = value


class InvalidNumber(TableError):
    """A negative number of repetitions."""

    def __init__(self, value):
        self.value = value


class Unreadable(TableError):
    """A text that no pipeline has."""

    def __init__(self, value):
        self.value = value

"""The checks of points 4 and 6, which most calls make before anything else."""

from tablepipe.errors import InvalidCommand, InvalidTable, InvalidWidth

COLUMN_COMMANDS = ("sort", "sort_down", "unique")


def check_width(width):
    """Raise InvalidWidth if the width is less than 1."""
    if width < 1:
        raise InvalidWidth(width)


def check_pipeline(width, pipeline):
    """Raise InvalidCommand for the first element that is not a command."""
    for index, element in enumerate(pipeline):
        if not is_command(width, element):
            raise InvalidCommand(index)


def check_table(width, table):
    """Raise InvalidTable for the first row with another number of values."""
    for index, row in enumerate(table):
        if len(row) != width:
            raise InvalidTable(index)


def is_command(width, element):
    """Tell whether an element of a pipeline is a command for this width."""
    name = element[0]
    if name == "reverse":
        return len(element) == 1
    if name not in COLUMN_COMMANDS or len(element) != 2:
        return False
    return 0 <= element[1] < width

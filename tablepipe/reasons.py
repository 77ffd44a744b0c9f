"""Reasons for which rows are missing from a result."""

from tablepipe.checks import check_pipeline, check_table, check_width
from tablepipe.errors import InvalidIndex
from tablepipe.running import positions_after


def why_missing(width, pipeline, table, position):
    """Return which command removes the row at a position, and the row kept instead, or None if none removes it."""
    check_width(width)
    check_pipeline(width, pipeline)
    check_table(width, table)
    if not 0 <= position < len(table):
        raise InvalidIndex(position)
    present = list(range(len(table)))
    for index, command in enumerate(pipeline):
        present = positions_after(command, table, present)
        if position not in present:
            return index, winner(command[1], table, present, position)
    return None


def winner(column, table, kept, position):
    """Return the kept position whose row has the same value in a column as the row at a position."""
    value = table[position][column]
    return [other for other in kept if table[other][column] == value][0]

"""Reading pipelines from texts."""

from tablepipe.checks import COLUMN_COMMANDS
from tablepipe.errors import Unreadable

MOST_DIGITS = 9


def read_pipeline(text):
    """Return the pipeline of a text."""
    if text == "-":
        return []
    pipeline = [read_command(part) for part in text.split(" | ")]
    if None in pipeline:
        raise Unreadable(text)
    return pipeline


def read_command(part):
    """Return the command that a part of a text shows, or None if it shows none."""
    if part == "reverse":
        return ("reverse",)
    name, _, column = part.partition(" ")
    if name not in COLUMN_COMMANDS or not is_column(column):
        return None
    return name, int(column)


def is_column(digits):
    """Tell whether a text is a column as it is shown: without leading zeros, and not too long."""
    if not digits.isdigit() or not digits.isascii() or len(digits) > MOST_DIGITS:
        return False
    return digits == "0" or digits[0] != "0"

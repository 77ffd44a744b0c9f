"""Learning the form of a hidden pipeline by questions."""

from tablepipe.checks import check_pipeline, check_table, check_width
from tablepipe.parting import row_beside, table_for_turn, table_of
from tablepipe.running import positions_left


class Box:
    """A hidden pipeline, which answers what it leaves of tables."""

    def __init__(self, width, pipeline):
        check_width(width)
        check_pipeline(width, pipeline)
        self._width = width
        self._pipeline = list(pipeline)
        self._questions = 0

    def width(self):
        """Return the number of columns."""
        return self._width

    def answer(self, table):
        """Return the positions of the rows of the result for a table, in order."""
        check_table(self._width, table)
        found = positions_left(self._pipeline, table)
        self._questions += 1
        return found

    def questions(self):
        """Return how many tables have been answered without an error."""
        return self._questions


def learn(box):
    """Return the form of the pipeline that a box hides."""
    columns = columns_in_turn(box)
    rules = []
    for index, column in enumerate(columns):
        rules.append((column, learn_keys(box, {column: 0}, columns[:index])))
    return rules, learn_keys(box, {}, columns)


def columns_in_turn(box):
    """Return the columns of the unique commands that matter, in order."""
    turns = []
    keys = {}
    for column in range(box.width()):
        if is_unique(box, column):
            keys[column] = first_key(box, {column: 0})
            earlier = [other for other in turns if has_earlier_turn(box, other, column, keys)]
            turns = earlier + [column] + turns[len(earlier):]
    return turns


def is_unique(box, column):
    """Tell whether only one of two rows stays that are equal in a column and nowhere else."""
    width = box.width()
    return len(box.answer(table_of(width, [row_beside(width, 1, {column: 0})]))) == 1


def has_earlier_turn(box, column, other, keys):
    """Tell which of two unique columns is the earlier one, given the first key of the tie rule of each."""
    return len(box.answer(table_for_turn(box.width(), column, keys[column], other, keys[other]))) == 1


def learn_keys(box, numbers, columns):
    """Return the keys by which two rows are compared that are equal in the columns with numbers.

    Behind the first key of one of the other columns no key decides anything.
    """
    keys = [first_key(box, numbers)]
    while keys[-1][0] != "position" and keys[-1][0] not in columns:
        numbers = {**numbers, keys[-1][0]: 0}
        keys.append(first_key(box, numbers))
    return keys


def first_key(box, numbers):
    """Return the first key by which two rows are compared that are equal in the columns with numbers only."""
    zeros_first = zeros_are_first(box, numbers)
    direction = "up" if zeros_first else "down"
    for column in range(box.width()):
        # Only the first key tells which row comes first, so only a change of its column changes the answer.
        if column not in numbers and zeros_are_first(box, {**numbers, column: -1}) != zeros_first:
            return column, direction
    return "position", direction


def zeros_are_first(box, numbers):
    """Tell whether a row of zeros comes before a row behind it that has these numbers, and ones elsewhere."""
    width = box.width()
    return box.answer(table_of(width, [row_beside(width, 1, numbers)]))[0] == 0

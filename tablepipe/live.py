"""Results that are kept up to date while rows are inserted and removed."""

from tablepipe.checks import check_pipeline, check_table, check_width
from tablepipe.errors import InvalidIndex, InvalidTable
from tablepipe.forms import form_of
from tablepipe.running import positions_left


class Live:
    """The result of a pipeline for a table that changes."""

    def __init__(self, width, pipeline, table):
        check_width(width)
        check_pipeline(width, pipeline)
        check_table(width, table)
        self._width = width
        self._pipeline = list(pipeline)
        self._form = form_of(width, pipeline)
        self._table = list(table)
        self._present = positions_left(pipeline, table)

    def __eq__(self, other):
        if not isinstance(other, Live):
            return False
        return (self._width, self._table, self._form) == (other._width, other._table, other._form)

    def table(self):
        """Return the rows of the table."""
        return list(self._table)

    def result(self):
        """Return the rows of the result."""
        return [self._table[position] for position in self._present]

    def insert(self, index, row):
        """Insert a row before the one at an index, or at the end; return the changes of the result."""
        if not 0 <= index <= len(self._table):
            raise InvalidIndex(index)
        if len(row) != self._width:
            raise InvalidTable(index)
        before = around(index, self._present)
        self._table = self._table[:index] + [row] + self._table[index:]
        self._present = positions_left(self._pipeline, self._table)
        return changes_between(before, self._present, self._table)

    def remove(self, index):
        """Remove the row at an index; return the changes of the result."""
        if not 0 <= index < len(self._table):
            raise InvalidIndex(index)
        larger, before = self._table, self._present
        self._table = larger[:index] + larger[index + 1:]
        self._present = positions_left(self._pipeline, self._table)
        return changes_between(before, around(index, self._present), larger)


def around(index, present):
    """Return the positions that rows have in a table with one row more, which stands at an index."""
    return [position + 1 if position >= index else position for position in present]


def changes_between(before, after, table):
    """Return the changes that turn the rows at some positions of a table into those at some others."""
    # Positions that stay are in the same order before and after, so no row has to be moved. Removing from the
    # end and inserting from the start lets each index be the one in the result before or after all changes.
    removed = [("remove", index) for index, position in enumerate(before) if position not in after]
    inserted = [("insert", index, table[position]) for index, position in enumerate(after) if position not in before]
    return removed[::-1] + inserted

"""Running pipelines on tables."""

from tablepipe.checks import check_pipeline, check_table, check_width


def run(width, pipeline, table):
    """Return the rows of the result, in order."""
    return [table[position] for position in positions(width, pipeline, table)]


def positions(width, pipeline, table):
    """Return the positions of the rows of the result, in order."""
    check_width(width)
    check_pipeline(width, pipeline)
    check_table(width, table)
    return positions_left(pipeline, table)


def positions_left(pipeline, table):
    """Return the positions of the rows that a pipeline leaves, in order; the caller has checked both."""
    present = list(range(len(table)))
    for command in pipeline:
        present = positions_after(command, table, present)
    return present


def positions_after(command, table, present):
    """Return what one command makes of the present positions, as a new list."""
    name = command[0]
    if name == "reverse":
        return present[::-1]
    column = command[1]
    if name == "unique":
        return first_positions(column, table, present)
    # Negated keys keep rows with equal values in their order when sorting down.
    sign = 1 if name == "sort" else -1
    return sorted(present, key=lambda position: sign * table[position][column])


def first_positions(column, table, present):
    """Return, for each value of a column, the first present position that has it."""
    seen = set()
    kept = []
    for position in present:
        value = table[position][column]
        if value not in seen:
            seen.add(value)
            kept.append(position)
    return kept

"""Finding small tables for which two pipelines leave different positions."""

from tablepipe.forms import form_of


def parting_table(width, first, second):
    """Return a table with at most three rows on which two pipelines differ, or None if they are equivalent."""
    rules, order = form_of(width, first)
    other_rules, other_order = form_of(width, second)
    if (rules, order) == (other_rules, other_order):
        return None
    columns = [column for column, _ in rules]
    other_columns = [column for column, _ in other_rules]
    for column in range(width):
        if (column in columns) != (column in other_columns):
            return table_of(width, [row_beside(width, 1, {column: 0})])
    if columns != other_columns:
        return table_for_turns(width, rules, other_rules)
    for (column, keys), (_, other_keys) in zip(rules, other_rules):
        if keys != other_keys:
            return table_for_keys(width, keys, other_keys, {column: 0})
    return table_for_keys(width, order, other_order, {})


def table_for_turns(width, rules, other_rules):
    """Return three rows on which rules differ that have the same columns in another order."""
    turn = 0
    while rules[turn][0] == other_rules[turn][0]:
        turn += 1
    column, keys = rules[turn]
    other_column, other_keys = other_rules[turn]
    return table_for_turn(width, column, keys[0], other_column, other_keys[0])


def table_for_turn(width, column, key, other_column, other_key):
    """Return three rows of which one stays if a column has its turn before another one, and two if it is later.

    Each key is the first one of the tie rule of the column before it.
    """
    # Whoever begins with the first column removes the second row, and then one of the other two rows. Whoever
    # begins with the other column removes the row of zeros, and the two rows that are left share no value.
    second = row_beside(width, 1, {column: 0, key[0]: number_behind(key, 1)})
    third = row_beside(width, -2, {other_column: 0, other_key[0]: number_behind(other_key, -2)})
    return table_of(width, [second, third])


def table_for_keys(width, keys, other_keys, numbers):
    """Return two rows that two lists of keys put in different orders, the second one with these numbers."""
    # Neither list is the beginning of the other one, since both end with the first key that leaves no ties.
    at = 0
    while keys[at] == other_keys[at]:
        numbers = {**numbers, keys[at][0]: 0}
        at += 1
    key, other_key = keys[at], other_keys[at]
    parted = {key[0]: number_behind(key, 1), other_key[0]: number_behind(other_key, -1)}
    return table_of(width, [row_beside(width, 1, {**numbers, **parted})])


def number_behind(key, distance):
    """Return the number that a key puts this distance behind 0, or in front of it if the distance is negative."""
    return distance if key[1] == "up" else -distance


def row_beside(width, distance, numbers):
    """Return a row and behind it its place; where no number is told, it differs by the distance from zeros."""
    return [numbers.get(column, distance) for column in list(range(width)) + ["position"]]


def table_of(width, rows):
    """Return the table of a row of zeros and these rows, in the order of their places."""
    zeros = [0] * (width + 1)
    in_place = sorted([zeros, *rows], key=lambda row: row[width])
    return [tuple(numbers[:width]) for numbers in in_place]

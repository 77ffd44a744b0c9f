"""The forms of pipelines: which rows are kept, by which tie rules, in which order."""

from tablepipe.checks import check_pipeline, check_width

DIRECTIONS = {"sort": "up", "sort_down": "down"}
OPPOSITES = {"up": "down", "down": "up"}


def form_of(width, pipeline):
    """Return the form of a pipeline: its rules and its final order."""
    check_width(width)
    check_pipeline(width, pipeline)
    keys = [("position", "up")]
    rules = []
    columns = []
    for command in pipeline:
        if command[0] != "unique":
            keys = keys_after(command, keys)
        elif command[1] not in columns:
            rules.append((command[1], tie_rule(command[1], keys, columns)))
            columns.append(command[1])
    return rules, cut_behind(keys, columns)


def equivalent(width, first, second):
    """Tell whether two pipelines leave the same positions in the same order for all tables."""
    return form_of(width, first) == form_of(width, second)


def keys_after(command, keys):
    """Return the list of keys behind a sort, a sort_down or a reverse."""
    if command[0] == "reverse":
        return [(column, OPPOSITES[direction]) for column, direction in keys]
    key = (command[1], DIRECTIONS[command[0]])
    return [key] + without_column(command[1], keys)


def tie_rule(column, keys, earlier):
    """Return the tie rule of a unique command that matters, given the earlier such columns."""
    return cut_behind(without_column(column, keys), earlier)


def without_column(column, keys):
    """Return the keys without the one of a column, if there is one."""
    return [key for key in keys if key[0] != column]


def cut_behind(keys, columns):
    """Return the keys up to the first one whose column is one of these."""
    # Behind a unique command no two rows share a value of its column, so later keys decide nothing.
    for index, key in enumerate(keys):
        if key[0] in columns:
            return keys[:index + 1]
    return list(keys)

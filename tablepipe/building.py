"""Building pipelines for forms."""

from tablepipe.checks import check_width
from tablepipe.errors import InvalidForm
from tablepipe.forms import cut_behind, keys_after, tie_rule

SORTS = {"up": "sort", "down": "sort_down"}


def pipeline_of(width, form):
    """Return a pipeline with this form."""
    check_width(width)
    rules, order = form
    pipeline = []
    keys = [("position", "up")]
    columns = []
    for index, (column, rule) in enumerate(rules):
        if not 0 <= column < width or column in columns or not are_keys(width, rule):
            raise InvalidForm(index)
        commands = commands_towards(rule, keys)
        keys = keys_behind(commands, keys)
        if tie_rule(column, keys, columns) != rule:
            raise InvalidForm(index)
        pipeline = [*pipeline, *commands, ("unique", column)]
        columns.append(column)
    if not are_keys(width, order):
        raise InvalidForm(len(rules))
    commands = commands_towards(order, keys)
    if cut_behind(keys_behind(commands, keys), columns) != order:
        raise InvalidForm(len(rules))
    return pipeline + commands


def are_keys(width, wanted):
    """Tell whether all keys of a list have a column of this width, or a position, and a direction."""
    for column, direction in wanted:
        if direction not in SORTS:
            return False
        if column != "position" and not 0 <= column < width:
            return False
    return True


def commands_towards(wanted, keys):
    """Return the commands that make a list of keys begin with the wanted keys, if any commands can."""
    # Sorting by every wanted column leaves as little as possible of the earlier keys, which no command removes
    # without putting a key of the same column in front. So if these commands do not succeed, none do.
    commands = []
    if wanted and wanted[-1][0] == "position" and wanted[-1] != keys[-1]:
        commands.append(("reverse",))
    for column, direction in reversed(wanted):
        if column != "position":
            commands.append((SORTS[direction], column))
    return commands


def keys_behind(commands, keys):
    """Return the list of keys behind several sorts and reverses."""
    for command in commands:
        keys = keys_after(command, keys)
    return keys

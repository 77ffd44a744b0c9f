"""What several test files need."""

import copy
import random

from tablepipe.errors import InvalidCommand, InvalidTable, InvalidWidth

BIG = 10 ** 12
TURNED = {"up": "down", "down": "up"}
COMMANDS_BY_WIDTH = {
    width: [("reverse",)] + [(name, column) for column in range(width) for name in ("sort", "sort_down", "unique")]
    for width in range(1, 8)
}
# None of these is a command for two columns.
WRONG_COMMANDS = [
    ("drop",), ("drop", 0), ("Sort", 0), ("",), ("", 0), ("sort ", 0), ("position", 0),
    ("sort",), ("sort_down",), ("unique",),
    ("reverse", 0), ("reverse", -1), ("reverse", 5),
    ("sort", -1), ("sort_down", -1), ("unique", -1),
    ("sort", 2), ("sort_down", 2), ("unique", 2), ("unique", BIG), ("sort", -BIG),
]


def random_pipeline(source, width, length):
    return [source.choice(COMMANDS_BY_WIDTH[width]) for _ in range(length)]


def mixed_pipeline(source, width):
    """A pipeline with a unique command of each of some columns, and with other commands around them."""
    pipeline = random_pipeline(source, width, source.randint(0, 2))
    for column in source.sample(range(width), source.randint((width + 1) // 2, width)):
        pipeline += [("unique", column)] + random_pipeline(source, width, source.randint(0, 2))
    return pipeline


def sorts_of_all(source, width):
    """Sorts by every column, in some order and directions, and perhaps a reversal somewhere between them."""
    sorts = [(source.choice(["sort", "sort_down"]), column) for column in source.sample(range(width), width)]
    if source.random() < 0.5:
        sorts.insert(source.randint(0, width), ("reverse",))
    return sorts


def full_pipeline(source, width):
    """Unique commands of all columns, with sorts by all columns and reversals before, between and behind them."""
    pipeline = sorts_of_all(source, width)
    for column in source.sample(range(width), width):
        pipeline.append(("unique", column))
        if source.random() < 0.6:
            pipeline += sorts_of_all(source, width)
    return pipeline


def pipeline_of_sixteen(source, width):
    """Exactly sixteen commands, unique commands of all columns among them (of at most six)."""
    uniques = [("unique", column) for column in range(width)]
    pipeline = uniques + random_pipeline(source, width, 16 - width)
    return source.sample(pipeline, 16)


def random_table(source, width, length, low=-2, high=2):
    return [tuple(source.randint(low, high) for _ in range(width)) for _ in range(length)]


def numbers(seed):
    """A source of the same numbers in every run of the tests."""
    return random.Random(seed)


def written_otherwise(source, pipeline):
    """A pipeline that means the same: commands are added that change nothing, and some are exchanged."""
    result = []
    done = []
    for command in pipeline:
        if source.random() < 0.3:
            result += [("reverse",), ("reverse",)]
        if done and source.random() < 0.4:
            result.append(("unique", source.choice(done)))
        if command[0].startswith("sort") and source.random() < 0.5:
            result.append((source.choice(["sort", "sort_down"]), command[1]))
        result.append(command)
        if command[0] == "unique":
            done.append(command[1])
            before = result[-2] if len(result) > 1 else ("reverse",)
            if before[0].startswith("sort") and before[1] == command[1]:
                result[-2:] = [command, before]
    return result


def up_to(keys, columns):
    """The keys of an order that decide something, as a tuple."""
    ends = [at for at, key in enumerate(keys) if key[0] in columns]
    return tuple(keys[:ends[0] + 1] if ends else keys)


def step(state, command):
    """Points 9 and 10, word by word, as tuples: the list of keys and the rules behind one more command."""
    keys, rules = state
    if command[0] == "reverse":
        return tuple((column, TURNED[direction]) for column, direction in keys), rules
    others = tuple(key for key in keys if key[0] != command[1])
    if command[0] != "unique":
        return ((command[1], "up" if command[0] == "sort" else "down"),) + others, rules
    columns = [column for column, _ in rules]
    if command[1] in columns:
        return state
    return keys, rules + ((command[1], up_to(others, columns)),)


def all_forms(width):
    """Every form that a pipeline has, as tuples."""
    found = {((("position", "up"),), ())}
    waiting = list(found)
    while waiting:
        state = waiting.pop()
        for command in COMMANDS_BY_WIDTH[width]:
            following = step(state, command)
            if following not in found:
                found.add(following)
                waiting.append(following)
    return {(rules, up_to(keys, [column for column, _ in rules])) for keys, rules in found}


def as_lists(rules, order):
    return [(column, list(keys)) for column, keys in rules], list(order)


class Checks:
    """Assertions, for a TestCase beside it."""

    def assert_error(self, kind, value, call, *arguments, **named):
        with self.assertRaises(kind) as caught:
            call(*arguments, **named)
        self.assertIs(type(caught.exception), kind)
        self.assertEqual(caught.exception.value, value)

    def assert_unchanged(self, call, *arguments):
        before = copy.deepcopy(arguments)
        call(*arguments)
        self.assertEqual(arguments, before)

    def assert_width_checked(self, call, *arguments):
        """The Width check, of a call that takes a width before these arguments."""
        for width in (0, -1, -BIG):
            self.assert_error(InvalidWidth, width, call, width, *arguments)

    def assert_pipeline_checked(self, call):
        """The Pipeline check, of a call that takes a pipeline for two columns."""
        for element in WRONG_COMMANDS:
            with self.subTest(element):
                self.assert_error(InvalidCommand, 0, call, [element])
                self.assert_error(InvalidCommand, 3, call, [("sort", 0), ("reverse",), ("unique", 1), element, ("",)])

    def assert_table_checked(self, call):
        """The Table check, of a call that takes a table of two columns."""
        self.assert_error(InvalidTable, 0, call, [()])
        self.assert_error(InvalidTable, 0, call, [(1,), (1, 2, 3)])
        self.assert_error(InvalidTable, 1, call, [(1, 2), (1, 2, 3)])
        self.assert_error(InvalidTable, 2, call, [(1, 2), (3, 4), (5,), (6, 7), ()])

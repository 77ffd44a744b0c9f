"""What several test files need."""

import copy
import random

COMMANDS_BY_WIDTH = {
    width: [("reverse",)] + [(name, column) for column in range(width) for name in ("sort", "sort_down", "unique")]
    for width in range(1, 8)
}


def random_pipeline(source, width, length):
    return [source.choice(COMMANDS_BY_WIDTH[width]) for _ in range(length)]


def random_table(source, width, length, low=-2, high=2):
    return [tuple(source.randint(low, high) for _ in range(width)) for _ in range(length)]


def numbers(seed):
    """A source of the same numbers in every run of the tests."""
    return random.Random(seed)


class Checks:
    """Assertions, for a TestCase beside it."""

    def assert_error(self, kind, value, call, *arguments, **named):
        with self.assertRaises(kind) as caught:
            call(*arguments, **named)
        self.assertIs(type(caught.exception), kind)
        self.assertEqual(caught.exception.value, value)

    def assert_unchanged(self, call, *arguments):
        before = copy.deepcopy(arguments)
        call(*arguments)
        self.assertEqual(arguments, before)

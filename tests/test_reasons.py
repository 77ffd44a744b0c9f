import itertools
import unittest

from helpers import BIG, COMMANDS_BY_WIDTH, Checks, mixed_pipeline, numbers, random_pipeline, random_table
from tablepipe.errors import InvalidCommand, InvalidIndex, InvalidTable, InvalidWidth, TableError
from tablepipe.reasons import why_missing
from tablepipe.running import positions


def reasons(width, pipeline, table):
    """All reasons, found by running longer and longer beginnings of the pipeline."""
    found = {}
    before = positions(width, [], table)
    for index, command in enumerate(pipeline):
        after = positions(width, pipeline[:index + 1], table)
        for position in set(before) - set(after):
            value = table[position][command[1]]
            winners = [other for other in after if table[other][command[1]] == value]
            found[position] = (index, winners[0])
        before = after
    return [found.get(position) for position in range(len(table))]


class Examples(unittest.TestCase):
    def test_the_example(self):
        table = [(1, 5), (2, 9), (1, 3), (3, 3)]
        found = [why_missing(2, [("sort", 1), ("unique", 0)], table, position) for position in [0, 1, 2]]
        self.assertEqual(found, [(1, 2), None, None])

    def test_the_function_is_defined_in_this_file(self):
        self.assertEqual(why_missing.__module__, "tablepipe.reasons")


class Reasons(unittest.TestCase):
    def check(self, width, pipeline, table, expected):
        self.assertEqual([why_missing(width, pipeline, table, at) for at in range(len(table))], expected)

    def test_without_unique_nothing_is_missing(self):
        table = [(2, 1), (1, 1), (2, 1)]
        self.check(2, [], table, [None, None, None])
        self.check(2, [("sort", 0), ("reverse",), ("sort_down", 1)], table, [None, None, None])

    def test_the_winner_is_the_row_that_is_first_at_that_moment(self):
        table = [(1, 5), (1, 3), (1, 4)]
        self.check(2, [("unique", 0)], table, [None, (0, 0), (0, 0)])
        self.check(2, [("reverse",), ("unique", 0)], table, [(1, 2), (1, 2), None])
        self.check(2, [("sort", 1), ("unique", 0)], table, [(1, 1), None, (1, 1)])
        self.check(2, [("sort", 1), ("reverse",), ("unique", 0)], table, [None, (2, 0), (2, 0)])

    def test_equal_rows(self):
        table = [(7,), (7,), (7,)]
        self.check(1, [("unique", 0)], table, [None, (0, 0), (0, 0)])
        self.check(1, [("sort", 0), ("unique", 0), ("unique", 0)], table, [None, (1, 0), (1, 0)])
        self.check(1, [("reverse",), ("unique", 0), ("reverse",)], table, [(1, 2), (1, 2), None])

    def test_the_command_that_removes_a_row_is_the_first_one_that_does(self):
        table = [(1, 1), (1, 1), (2, 1)]
        self.check(2, [("unique", 0), ("unique", 1)], table, [None, (0, 0), (1, 0)])
        self.check(2, [("unique", 1), ("unique", 0)], table, [None, (0, 0), (0, 0)])

    def test_a_winner_may_be_missing_later(self):
        table = [(2, 1), (1, 2), (1, 1)]
        self.check(2, [("unique", 0), ("sort", 0), ("unique", 1)], table, [None, None, (0, 1)])
        table = [(1, 1), (1, 2), (2, 1)]
        self.check(2, [("unique", 0), ("reverse",), ("unique", 1)], table, [(2, 2), (0, 0), None])

    def test_a_unique_of_a_column_that_had_one_removes_nothing(self):
        table = [(1, 2), (1, 1), (3, 3)]
        pipeline = [("unique", 0), ("sort", 1), ("unique", 0), ("reverse",), ("unique", 0)]
        self.check(2, pipeline, table, [None, (0, 0), None])

    def test_rows_with_the_same_value_in_another_column_do_not_win(self):
        table = [(5, 1), (5, 2), (6, 1), (6, 2)]
        self.check(2, [("unique", 1)], table, [None, None, (0, 0), (0, 1)])

    def test_values_at_both_limits(self):
        table = [(BIG, -BIG), (-BIG, -BIG), (BIG, BIG), (-BIG, BIG)]
        self.check(2, [("sort", 0), ("unique", 1)], table, [(1, 1), None, (1, 3), None])
        self.check(2, [("sort_down", 0), ("unique", 1)], table, [None, (1, 0), None, (1, 2)])

    def test_six_columns_and_somewhat_more(self):
        for width in range(1, 8):
            last = width - 1
            table = [(at,) * last + (value,) for at, value in enumerate((4, 4, 0))]
            self.check(width, [("reverse",), ("unique", last)], table, [(1, 1), None, None])


class ManyPipelines(unittest.TestCase):
    def check(self, width, pipeline, table):
        expected = reasons(width, pipeline, table)
        result = positions(width, pipeline, table)
        for position in range(len(table)):
            found = why_missing(width, pipeline, table, position)
            self.assertEqual(found, expected[position], (pipeline, table, position))
            self.assertIs(found is None, position in result)
            if found is not None:
                self.assertIs(type(found), tuple)
                self.assertEqual(pipeline[found[0]][0], "unique")

    def test_all_short_pipelines_on_a_table(self):
        table = [(1, 2), (2, 1), (1, 1), (2, 2), (1, 2)]
        for length in range(4):
            for pipeline in itertools.product(COMMANDS_BY_WIDTH[2], repeat=length):
                self.check(2, list(pipeline), table)

    def test_every_position_of_many_tables(self):
        source = numbers(71)
        for number in range(700):
            width = 1 + number % 6
            pipeline = random_pipeline(source, width, source.choice([0, 1, 2, 4, 8, 16]))
            self.check(width, pipeline, random_table(source, width, source.choice([0, 1, 3, 8, 20, 40])))

    def test_several_unique_commands_with_reversals_and_sorts_between_them(self):
        source = numbers(72)
        for number in range(500):
            width = 2 + number % 5
            self.check(width, mixed_pipeline(source, width), random_table(source, width, 15, 0, 9))

    def test_beyond_the_limits_there_is_no_error(self):
        source = numbers(73)
        for _ in range(20):
            self.check(7, random_pipeline(source, 7, 40), random_table(source, 7, 60, -40, 40))


class Errors(unittest.TestCase, Checks):
    TABLE = [(1, 5), (2, 9), (1, 3)]

    def test_the_width(self):
        self.assert_width_checked(why_missing, [], [], 0)

    def test_the_pipeline(self):
        self.assert_pipeline_checked(lambda pipeline: why_missing(2, pipeline, self.TABLE, 1))

    def test_the_table(self):
        self.assert_table_checked(lambda table: why_missing(2, [("unique", 1)], table, 0))

    def test_the_position(self):
        for position in (-1, -2, -3, -4, -BIG, 3, 4, BIG):
            self.assert_error(InvalidIndex, position, why_missing, 2, [], self.TABLE, position)
            self.assert_error(InvalidIndex, position, why_missing, 2, [("unique", 0)], self.TABLE, position)

    def test_the_empty_table_has_no_position(self):
        for position in (-1, 0, 1):
            self.assert_error(InvalidIndex, position, why_missing, 1, [("unique", 0)], [], position)

    def test_the_order_of_the_checks(self):
        self.assert_error(InvalidWidth, 0, why_missing, 0, [("drop",)], [(1,)], 9)
        self.assert_error(InvalidCommand, 0, why_missing, 1, [("drop",)], [()], 9)
        self.assert_error(InvalidTable, 1, why_missing, 1, [], [(1,), (1, 2)], 9)

    def test_the_position_may_have_a_row_although_the_table_is_wrong_elsewhere(self):
        self.assert_error(InvalidTable, 2, why_missing, 1, [], [(1,), (1,), ()], 0)

    def test_each_is_a_table_error_and_a_value_error(self):
        for arguments in [(0, [], [], 0), (1, [("drop",)], [], 0), (1, [], [()], 0), (1, [], [], 0)]:
            for kind in (TableError, ValueError):
                self.assertRaises(kind, why_missing, *arguments)


class Arguments(unittest.TestCase, Checks):
    PIPELINE = [("sort_down", 1), ("unique", 0), ("reverse",)]
    TABLE = [(1, 5), (2, 9), (1, 7), (3, 3)]

    def test_by_position_and_by_name(self):
        self.assertEqual(why_missing(2, self.PIPELINE, self.TABLE, 0), (1, 2))
        self.assertEqual(why_missing(width=2, pipeline=self.PIPELINE, table=self.TABLE, position=0), (1, 2))
        self.assertEqual(why_missing(position=0, table=self.TABLE, pipeline=self.PIPELINE, width=2), (1, 2))
        self.assertIsNone(why_missing(2, self.PIPELINE, self.TABLE, position=2))
        self.assert_error(InvalidIndex, 4, why_missing, position=4, table=self.TABLE, pipeline=[], width=2)

    def test_arguments_stay_unchanged(self):
        for position in range(4):
            self.assert_unchanged(why_missing, 2, list(self.PIPELINE), list(self.TABLE), position)
            self.assert_unchanged(why_missing, 2, [], list(self.TABLE), position)

    def test_after_an_error_arguments_are_unchanged(self):
        commands, table = list(self.PIPELINE), list(self.TABLE)
        self.assertRaises(InvalidIndex, why_missing, 2, commands, table, 4)
        self.assertEqual((commands, table), (self.PIPELINE, self.TABLE))

    def test_the_kinds_of_the_results(self):
        found = why_missing(2, self.PIPELINE, self.TABLE, 0)
        self.assertEqual([type(found)] + [type(part) for part in found], [tuple, int, int])


if __name__ == "__main__":
    unittest.main()

import copy
import unittest

from helpers import BIG, COMMANDS_BY_WIDTH, WRONG_COMMANDS, Checks, numbers, random_pipeline, random_table
from tablepipe import running
from tablepipe.errors import InvalidCommand, InvalidTable, InvalidWidth, TableError
from tablepipe.running import positions, run


def slow_positions(pipeline, table):
    """The same by other means: rows are inserted one by one, and values are looked for among the kept rows."""
    present = list(range(len(table)))
    for command in pipeline:
        old, present = present, []
        for at in old:
            if command[0] == "reverse":
                present.insert(0, at)
            elif command[0] == "unique":
                if all(table[at][command[1]] != table[other][command[1]] for other in present):
                    present.append(at)
            else:
                place = len(present)
                while place > 0 and is_before(command, table[at], table[present[place - 1]]):
                    place -= 1
                present.insert(place, at)
    return present


def is_before(command, row, other):
    if command[0] == "sort":
        return row[command[1]] < other[command[1]]
    return row[command[1]] > other[command[1]]


class Examples(unittest.TestCase, Checks):
    def test_run(self):
        pipeline = [("sort", 1), ("unique", 0), ("reverse",)]
        self.assertEqual(run(2, pipeline, [(1, 5), (2, 9), (1, 3), (3, 3)]), [(2, 9), (3, 3), (1, 3)])

    def test_run_with_a_wrong_command(self):
        self.assert_error(InvalidCommand, 1, run, 2, [("sort", 0), ("unique", 2)], [(1, 5)])

    def test_positions(self):
        self.assertEqual(positions(1, [("sort_down", 0)], [(4,), (7,), (4,), (7,)]), [1, 3, 0, 2])

    def test_the_functions_are_defined_in_this_file(self):
        self.assertEqual((run.__module__, positions.__module__), (running.__name__, running.__name__))


class SingleCommands(unittest.TestCase):
    TABLE = [(3, 1), (-1, 2), (3, 0), (0, 2), (-1, 1)]

    def check(self, command, expected):
        self.assertEqual(positions(2, [command], self.TABLE), expected)
        self.assertEqual(run(2, [command], self.TABLE), [self.TABLE[at] for at in expected])

    def test_sort_is_ascending_and_ties_keep_their_order(self):
        self.check(("sort", 0), [1, 4, 3, 0, 2])
        self.check(("sort", 1), [2, 0, 4, 1, 3])

    def test_sort_down_is_descending_and_ties_keep_their_order(self):
        self.check(("sort_down", 0), [0, 2, 3, 1, 4])
        self.check(("sort_down", 1), [1, 3, 0, 4, 2])

    def test_reverse(self):
        self.check(("reverse",), [4, 3, 2, 1, 0])

    def test_unique_keeps_the_first_row_of_each_value_in_order(self):
        self.check(("unique", 0), [0, 1, 3])
        self.check(("unique", 1), [0, 1, 2])

    def test_ties_keep_the_present_order_not_the_first_one(self):
        self.assertEqual(positions(2, [("reverse",), ("sort", 0)], self.TABLE), [4, 1, 3, 2, 0])
        self.assertEqual(positions(2, [("reverse",), ("sort_down", 0)], self.TABLE), [2, 0, 3, 4, 1])

    def test_unique_keeps_the_row_that_is_first_at_that_moment(self):
        self.assertEqual(positions(2, [("reverse",), ("unique", 0)], self.TABLE), [4, 3, 2])

    def test_sorts_compare_numbers_not_texts(self):
        table = [(10,), (9,), (-10,), (-9,), (BIG,), (-BIG,), (0,)]
        self.assertEqual(positions(1, [("sort", 0)], table), [5, 2, 3, 6, 1, 0, 4])
        self.assertEqual(positions(1, [("sort_down", 0)], table), [4, 0, 1, 6, 3, 2, 5])


class Edges(unittest.TestCase):
    def test_the_empty_pipeline(self):
        self.assertEqual(run(2, [], [(2, 1), (1, 1), (2, 1)]), [(2, 1), (1, 1), (2, 1)])
        self.assertEqual(positions(2, [], [(2, 1), (1, 1), (2, 1)]), [0, 1, 2])

    def test_the_empty_table(self):
        for pipeline in [[], [("sort", 0)], [("sort_down", 1)], [("reverse",)], [("unique", 1), ("unique", 0)]]:
            with self.subTest(pipeline):
                self.assertEqual(run(2, pipeline, []), [])
                self.assertEqual(positions(2, pipeline, []), [])

    def test_equal_rows_are_told_apart_by_their_positions(self):
        table = [(1, 1), (1, 1), (1, 1)]
        self.assertEqual(positions(2, [("sort", 0), ("sort_down", 1)], table), [0, 1, 2])
        self.assertEqual(positions(2, [("sort", 0), ("reverse",)], table), [2, 1, 0])
        self.assertEqual(positions(2, [("reverse",), ("unique", 1)], table), [2])
        self.assertEqual(run(2, [("reverse",)], table), table)
        self.assertEqual(run(2, [("unique", 0)], table), [(1, 1)])

    def test_one_to_six_columns_and_somewhat_more(self):
        for width in range(1, 8):
            last = width - 1
            table = [(5,) * last + (value,) for value in (1, -3, 1, 2)]
            with self.subTest(width):
                self.assertEqual(positions(width, [("sort", last)], table), [1, 0, 2, 3])
                self.assertEqual(positions(width, [("sort_down", last)], table), [3, 0, 2, 1])
                self.assertEqual(positions(width, [("unique", last)], table), [0, 1, 3])
                self.assertEqual(positions(width, [("unique", 0)], table), [0] if last else [0, 1, 3])

    def test_beyond_the_limits_there_is_no_error(self):
        table = [(at * 7 - 300, at // 2, -BIG * 10 ** 9 * at) for at in range(100)]
        pipeline = [("sort", 2), ("reverse",), ("unique", 1)] * 20
        self.assertEqual(positions(3, pipeline, table), slow_positions(pipeline, table))

    def test_a_sort_behind_a_unique_sorts_what_is_left(self):
        self.assertEqual(run(2, [("unique", 0), ("sort", 1)], [(1, 9), (2, 5), (1, 1)]), [(2, 5), (1, 9)])

    def test_unique_of_one_column_and_then_of_another(self):
        table = [(1, 1), (1, 2), (2, 1)]
        self.assertEqual(positions(2, [("unique", 0), ("unique", 1)], table), [0])
        self.assertEqual(positions(2, [("sort_down", 1), ("unique", 0), ("unique", 1)], table), [1, 2])


class LongPipelines(unittest.TestCase):
    def cases(self):
        source = numbers(20)
        for number in range(600):
            width = 1 + number % 6
            length = source.choice([2, 3, 5, 8, 16, 30])
            table = random_table(source, width, source.choice([0, 1, 3, 7, 12, 40]))
            yield width, random_pipeline(source, width, length), table

    def test_positions_against_a_slow_way(self):
        for width, pipeline, table in self.cases():
            with self.subTest(pipeline=pipeline, table=table):
                self.assertEqual(positions(width, pipeline, table), slow_positions(pipeline, table))

    def test_run_returns_the_rows_at_the_positions(self):
        for width, pipeline, table in self.cases():
            expected = [table[at] for at in positions(width, pipeline, table)]
            with self.subTest(pipeline=pipeline, table=table):
                self.assertEqual(run(width, pipeline, table), expected)

    def test_two_parts_give_what_the_whole_gives(self):
        for width, pipeline, table in self.cases():
            cut = len(pipeline) // 3
            between = positions(width, pipeline[:cut], table)
            rows = [table[at] for at in between]
            behind = positions(width, pipeline[cut:], rows)
            with self.subTest(pipeline=pipeline, table=table):
                self.assertEqual(run(width, pipeline[cut:], rows), run(width, pipeline, table))
                self.assertEqual([between[at] for at in behind], positions(width, pipeline, table))


class Errors(unittest.TestCase, Checks):
    def check(self, kind, value, *arguments):
        self.assert_error(kind, value, run, *arguments)
        self.assert_error(kind, value, positions, *arguments)

    def test_the_width(self):
        for width in (0, -1, -BIG):
            self.check(InvalidWidth, width, width, [], [])

    def test_each_kind_of_wrong_command(self):
        for element in WRONG_COMMANDS:
            with self.subTest(element):
                self.check(InvalidCommand, 0, 2, [element], [])
                self.check(InvalidCommand, 3, 2, [("sort", 0), ("reverse",), ("unique", 1), element], [(1, 2)])

    def test_each_right_command_raises_nothing(self):
        for width in range(1, 7):
            for command in COMMANDS_BY_WIDTH[width]:
                with self.subTest(width, command=command):
                    self.assertEqual(positions(width, [command], [(1,) * width]), [0])

    def test_the_first_wrong_command_is_named(self):
        for element in WRONG_COMMANDS:
            for later in WRONG_COMMANDS:
                with self.subTest(element, later=later):
                    self.check(InvalidCommand, 1, 2, [("reverse",), element, later, ("sort", 1)], [])

    def test_a_column_may_exist_in_a_wider_table_only(self):
        self.check(InvalidCommand, 0, 1, [("sort", 1)], [])
        self.assertEqual(run(2, [("sort", 1)], []), [])

    def test_the_first_row_with_another_number_of_values_is_named(self):
        self.check(InvalidTable, 0, 2, [], [(1,)])
        self.check(InvalidTable, 0, 2, [], [()])
        self.check(InvalidTable, 2, 2, [("reverse",)], [(1, 2), (3, 4), (5, 6, 7), (8, 9), ()])
        self.check(InvalidTable, 1, 1, [("unique", 0)], [(1,), (1, 1)])

    def test_the_width_comes_first(self):
        self.check(InvalidWidth, 0, 0, [("drop",)], [(1,)])
        self.check(InvalidWidth, -2, -2, [("sort", 0)], [(1, 2)])

    def test_the_pipeline_comes_before_the_table(self):
        self.check(InvalidCommand, 1, 2, [("sort", 0), ("sort",)], [(1,)])

    def test_each_is_a_table_error_and_a_value_error(self):
        for arguments in [(0, [], []), (1, [("drop",)], []), (1, [], [()])]:
            for kind in (TableError, ValueError):
                for call in (run, positions):
                    self.assertRaises(kind, call, *arguments)

    def test_after_an_error_arguments_are_unchanged(self):
        for arguments in [(0, [("drop",)], [()]), (1, [("sort", 0), ("drop",)], [(2,), (1,)]), (1, [], [(2,), ()])]:
            before = copy.deepcopy(arguments)
            for call in (run, positions):
                self.assertRaises(TableError, call, *arguments)
                self.assertEqual(arguments, before)


class Arguments(unittest.TestCase, Checks):
    PIPELINE = [("sort_down", 1), ("unique", 0), ("reverse",)]
    TABLE = [(1, 5), (2, 9), (1, 7), (3, 3)]

    def test_by_position_and_by_name(self):
        for call in (run, positions):
            expected = call(2, self.PIPELINE, self.TABLE)
            self.assertEqual(call(width=2, pipeline=self.PIPELINE, table=self.TABLE), expected)
            self.assertEqual(call(table=self.TABLE, pipeline=self.PIPELINE, width=2), expected)
            self.assertEqual(call(2, self.PIPELINE, table=self.TABLE), expected)

    def test_arguments_stay_unchanged(self):
        for command in COMMANDS_BY_WIDTH[2]:
            self.assert_unchanged(run, 2, [command], list(self.TABLE))
            self.assert_unchanged(positions, 2, [command], list(self.TABLE))
        self.assert_unchanged(run, 2, list(self.PIPELINE), list(self.TABLE))
        self.assert_unchanged(positions, 2, list(self.PIPELINE), list(self.TABLE))

    def test_changing_a_result_changes_nothing_else(self):
        for pipeline in [[], self.PIPELINE, [("reverse",)], [("unique", 1)]]:
            for call in (run, positions):
                commands, table = list(pipeline), list(self.TABLE)
                result = call(2, commands, table)
                expected = list(result)
                result.append("more")
                result[0] = "other"
                self.assertEqual((commands, table), (pipeline, self.TABLE))
                self.assertEqual(call(2, commands, table), expected)

    def test_changing_an_argument_does_not_change_an_earlier_result(self):
        for call in (run, positions):
            commands, table = [], list(self.TABLE)
            result = call(2, commands, table)
            expected = list(result)
            table.reverse()
            commands.append(("reverse",))
            self.assertEqual(result, expected)

    def test_the_kinds_of_the_results(self):
        rows = run(2, self.PIPELINE, self.TABLE)
        found = positions(2, self.PIPELINE, self.TABLE)
        self.assertEqual((type(rows), type(found)), (list, list))
        self.assertEqual({type(row) for row in rows}, {tuple})
        self.assertEqual({type(at) for at in found}, {int})


if __name__ == "__main__":
    unittest.main()

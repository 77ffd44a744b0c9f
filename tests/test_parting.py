import itertools
import unittest

from helpers import BIG, COMMANDS_BY_WIDTH, Checks, mixed_pipeline, numbers, random_pipeline, written_otherwise
from tablepipe.errors import InvalidCommand, InvalidWidth, TableError
from tablepipe.forms import equivalent
from tablepipe.parting import parting_table
from tablepipe.running import positions


class Parting(unittest.TestCase, Checks):
    """The check that all tests of results use."""

    def check(self, width, first, second):
        """Return whether the pipelines are equivalent, after checking the table in both directions."""
        same = equivalent(width, first, second)
        self.check_table(width, first, second, same)
        self.check_table(width, second, first, same)
        return same

    def check_table(self, width, first, second, same):
        table = parting_table(width, first, second)
        if same:
            self.assertIsNone(table, (width, first, second))
            return
        self.assertIs(type(table), list, (width, first, second))
        self.assertLessEqual(len(table), 3)
        for row in table:
            self.assertIs(type(row), tuple)
            self.assertEqual([type(value) for value in row], [int] * width)
            self.assertLessEqual(max(abs(value) for value in row), BIG)
        self.assertNotEqual(positions(width, first, table), positions(width, second, table), (first, second, table))

    def check_parted(self, width, first, second):
        self.assertIs(self.check(width, first, second), False)

    def check_same(self, width, first, second):
        self.assertIs(self.check(width, first, second), True)


class Examples(Parting):
    def test_the_example(self):
        first = [("unique", 0), ("unique", 1)]
        second = [("unique", 1), ("unique", 0)]
        table = parting_table(2, first, second)
        self.assertEqual(len(table), 3)
        self.assertIs(positions(2, first, table) == positions(2, second, table), False)

    def test_the_function_is_defined_in_this_file(self):
        self.assertEqual(parting_table.__module__, "tablepipe.parting")


class OrdersDiffer(Parting):
    def test_in_the_position(self):
        self.check_parted(1, [], [("reverse",)])
        self.check_parted(3, [("sort", 1)], [("sort_down", 1), ("reverse",)])

    def test_in_a_direction(self):
        self.check_parted(1, [("sort", 0)], [("sort_down", 0)])
        self.check_parted(6, [("sort", 5), ("sort", 4)], [("sort_down", 5), ("sort", 4)])
        self.check_parted(2, [("unique", 1), ("sort", 1)], [("unique", 1), ("sort_down", 1)])

    def test_in_a_column(self):
        self.check_parted(2, [("sort", 0)], [("sort", 1)])
        self.check_parted(2, [("sort", 0)], [("sort_down", 1)])
        self.check_parted(3, [("sort", 0), ("sort", 1), ("sort", 2)], [("sort", 1), ("sort", 0), ("sort", 2)])

    def test_in_a_column_and_the_position(self):
        for reverses in ([], [("reverse",)]):
            for name in ("sort", "sort_down"):
                self.check_parted(1, reverses, reverses + [(name, 0)])
                self.check_parted(2, reverses + [("sort", 1)], reverses + [(name, 0), ("sort", 1)])

    def test_behind_unique_commands(self):
        before = [("unique", 0), ("unique", 1)]
        self.check_parted(2, before, before + [("reverse",)])
        self.check_parted(2, before + [("sort", 0)], before + [("sort", 1)])
        self.check_parted(2, before + [("sort", 0)], before + [("sort_down", 1)])
        self.check_parted(3, before + [("sort", 0), ("sort", 2)], before + [("sort", 1), ("sort", 2)])
        self.check_same(2, before + [("sort", 0)], before + [("reverse",), ("sort", 0)])


class RulesDiffer(Parting):
    def test_in_their_columns(self):
        self.check_parted(1, [], [("unique", 0)])
        self.check_parted(2, [("unique", 0)], [("unique", 1)])
        self.check_parted(2, [("unique", 0)], [("unique", 0), ("unique", 1)])
        self.check_parted(3, [("unique", 0), ("unique", 1)], [("unique", 2), ("unique", 1)])
        self.check_parted(3, [("unique", 2), ("unique", 0), ("unique", 1)], [("unique", 0), ("unique", 1)])

    def test_in_a_tie_rule(self):
        self.check_parted(1, [("unique", 0), ("sort", 0)], [("reverse",), ("unique", 0), ("sort", 0)])
        self.check_parted(2, [("sort", 1), ("unique", 0)], [("sort_down", 1), ("unique", 0), ("sort", 1)])
        self.check_parted(3, [("sort", 1), ("unique", 0), ("sort", 2)], [("unique", 0), ("sort", 1), ("sort", 2)])

    def test_in_a_tie_rule_whose_columns_become_unique_later(self):
        first = [("sort", 1), ("sort", 2), ("unique", 0), ("unique", 2), ("unique", 1), ("sort", 0)]
        second = [("sort_down", 1), ("sort", 2), ("unique", 0), ("unique", 2), ("unique", 1), ("sort", 0)]
        self.check_parted(3, first, second)

    def test_in_a_later_tie_rule_only(self):
        first = [("unique", 0), ("unique", 1), ("sort", 0)]
        second = [("unique", 0), ("reverse",), ("unique", 1), ("sort", 0)]
        self.check_parted(2, first, second)
        first = [("unique", 0), ("sort", 0), ("unique", 1), ("sort", 1)]
        second = [("unique", 0), ("sort_down", 0), ("unique", 1), ("sort", 1)]
        self.check_parted(2, first, second)

    def test_in_their_turns_whatever_the_tie_rules(self):
        starts = [
            [(name, column) for name, column in zip(names, columns)] + reverses
            for reverses in ([], [("reverse",)])
            for columns in itertools.permutations(range(3))
            for names in itertools.product(["sort", "sort_down"], repeat=2)
        ]
        for start in starts:
            for other in starts:
                self.check_parted(
                    3, start + [("unique", 0), ("unique", 1), ("sort", 0)], other + [("unique", 1), ("unique", 0)])
                self.check_parted(
                    3, start + [("unique", 2), ("unique", 0), ("unique", 1)],
                    other + [("unique", 0), ("unique", 1), ("unique", 2)])


class AllShortPipelines(Parting):
    def check_all(self, width, most):
        pipelines = [
            list(pipeline) for length in range(most + 1)
            for pipeline in itertools.product(COMMANDS_BY_WIDTH[width], repeat=length)
        ]
        for first, second in itertools.combinations(pipelines, 2):
            self.check(width, first, second)

    def test_of_one_column(self):
        self.check_all(1, 3)

    def test_of_two_columns(self):
        self.check_all(2, 2)


class ManyPairs(Parting):
    def cases(self, seed, many):
        source = numbers(seed)
        for number in range(many):
            width = 1 + number % 6
            yield source, width, random_pipeline(source, width, source.choice([0, 1, 3, 5, 8, 16]))

    def test_the_same_pipeline_written_in_another_way(self):
        for source, width, pipeline in self.cases(3, 900):
            self.check_same(width, pipeline, written_otherwise(source, pipeline))

    def test_the_same_pipeline(self):
        for _, width, pipeline in self.cases(4, 200):
            self.check_same(width, pipeline, list(pipeline))
            self.check_same(width, pipeline, pipeline)

    def test_one_command_changed(self):
        found = {True: 0, False: 0}
        for source, width, pipeline in self.cases(5, 3000):
            other = list(pipeline)
            if other:
                other[source.randrange(len(other))] = source.choice(COMMANDS_BY_WIDTH[width])
            found[self.check(width, pipeline, other)] += 1
        self.assertGreater(min(found.values()), 500)

    def test_two_unique_commands_exchanged(self):
        found = {True: 0, False: 0}
        for source, width, pipeline in self.cases(6, 3000):
            other = pipeline + [("unique", source.randrange(width))]
            places = [at for at, command in enumerate(other) if command[0] == "unique"]
            one, two = source.choice(places), source.choice(places)
            changed = list(other)
            changed[one], changed[two] = other[two], other[one]
            found[self.check(width, other, changed)] += 1
        self.assertGreater(min(found.values()), 500)

    def test_unrelated_pipelines(self):
        for source, width, pipeline in self.cases(7, 3000):
            self.check(width, pipeline, random_pipeline(source, width, source.choice([0, 2, 4, 9, 16])))

    def test_sorts_by_all_columns_before_unique_commands_of_all_columns(self):
        source = numbers(8)
        for number in range(3000):
            width = 1 + number % 6
            self.check(width, self.sorts_and_uniques(source, width), self.sorts_and_uniques(source, width))

    def sorts_and_uniques(self, source, width):
        columns = list(range(width))
        sorts = [(source.choice(["sort", "sort_down"]), column) for column in source.sample(columns, width)]
        # Mostly one turn of the columns, so that it is often the tie rules that differ.
        turns = source.sample(columns, width) if source.random() < 0.3 else columns
        middle = [("reverse",)] if source.random() < 0.5 else []
        return sorts + middle + [("unique", column) for column in turns] + random_pipeline(source, width, 2)

    def test_unique_commands_with_reversals_and_sorts_between_them(self):
        source = numbers(9)
        for number in range(3000):
            width = 2 + number % 5
            first = mixed_pipeline(source, width)
            second = mixed_pipeline(source, width) if number % 2 else self.with_other_sorts(source, width, first)
            self.check(width, first, second)

    def with_other_sorts(self, source, width, pipeline):
        return [
            (source.choice(["sort", "sort_down"]), source.randrange(width))
            if command[0].startswith("sort") and source.random() < 0.3 else command
            for command in pipeline
        ]

    def test_beyond_the_limits_there_is_no_error(self):
        source = numbers(10)
        for _ in range(100):
            first = random_pipeline(source, 7, 60)
            self.check(7, first, random_pipeline(source, 7, 60))
            self.check(7, first, first[:-2] + first[-1:])
            self.check_same(7, first, written_otherwise(source, first))
        self.check_parted(20, [("unique", 19), ("unique", 12)], [("unique", 12), ("unique", 19)])


class Errors(unittest.TestCase, Checks):
    def test_the_width(self):
        self.assert_width_checked(parting_table, [], [])

    def test_the_first_pipeline(self):
        self.assert_pipeline_checked(lambda pipeline: parting_table(2, pipeline, []))

    def test_the_second_pipeline(self):
        self.assert_pipeline_checked(lambda pipeline: parting_table(2, [("sort", 1)], pipeline))

    def test_the_order_of_the_checks(self):
        self.assert_error(InvalidWidth, 0, parting_table, 0, [("drop",)], [("drop",)])
        self.assert_error(InvalidCommand, 1, parting_table, 1, [("sort", 0), ("sort", 1)], [("drop",)])
        self.assert_error(InvalidCommand, 0, parting_table, 1, [("drop",)], [("sort", 0), ("sort", 1)])

    def test_the_same_wrong_pipeline_twice(self):
        self.assert_error(InvalidCommand, 0, parting_table, 1, [("drop",)], [("drop",)])

    def test_each_is_a_table_error_and_a_value_error(self):
        for kind in (TableError, ValueError):
            self.assertRaises(kind, parting_table, 0, [], [])
            self.assertRaises(kind, parting_table, 1, [], [("sort",)])


class Arguments(unittest.TestCase, Checks):
    FIRST = [("sort", 1), ("unique", 0), ("unique", 1)]
    SECOND = [("sort", 1), ("unique", 1), ("reverse",), ("unique", 0)]

    def test_by_position_and_by_name(self):
        expected = parting_table(2, self.FIRST, self.SECOND)
        self.assertEqual(parting_table(width=2, first=self.FIRST, second=self.SECOND), expected)
        self.assertEqual(parting_table(second=self.SECOND, width=2, first=self.FIRST), expected)
        self.assertEqual(parting_table(2, self.FIRST, second=self.SECOND), expected)
        self.assert_error(InvalidCommand, 0, parting_table, second=[("drop",)], first=[], width=2)

    def test_arguments_stay_unchanged(self):
        for first, second in [(self.FIRST, self.SECOND), (self.FIRST, []), (self.FIRST, self.FIRST[::-1]), ([], [])]:
            self.assert_unchanged(parting_table, 2, list(first), list(second))

    def test_changing_a_table_changes_no_later_one(self):
        for second in ([], [("unique", 0)], self.SECOND):
            table = parting_table(2, self.FIRST, second)
            expected = list(table)
            table[0] = "other"
            table.append("more")
            self.assertEqual(parting_table(2, self.FIRST, second), expected)


if __name__ == "__main__":
    unittest.main()

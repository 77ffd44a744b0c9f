import itertools
import unittest

from helpers import BIG, COMMANDS_BY_WIDTH, Checks, mixed_pipeline, numbers, random_pipeline
from tablepipe.errors import InvalidCommand, InvalidNumber, InvalidWidth, TableError
from tablepipe.forms import form_of
from tablepipe.repeating import repeated_form

UP = ("position", "up")
DOWN = ("position", "down")
MOST = 10 ** 30 - 1


class Examples(unittest.TestCase):
    def test_the_example(self):
        found = [
            repeated_form(1, [("sort", 0), ("reverse",)], 10 ** 20),
            repeated_form(1, [("unique", 0), ("reverse",)], 2),
        ]
        self.assertEqual(found, [([], [(0, "down"), UP]), ([(0, [UP])], [UP])])

    def test_the_function_is_defined_in_this_file(self):
        self.assertEqual(repeated_form.__module__, "tablepipe.repeating")


class FewRepetitions(unittest.TestCase):
    def check(self, width, pipeline):
        for times in range(7):
            written = [command for _ in range(times) for command in pipeline]
            with self.subTest(pipeline=pipeline, times=times):
                self.assertEqual(repeated_form(width, pipeline, times), form_of(width, written))

    def test_the_empty_pipeline(self):
        self.check(1, [])
        self.check(6, [])

    def test_reversals(self):
        self.check(1, [("reverse",)])
        self.check(3, [("reverse",), ("sort", 1), ("reverse",), ("sort_down", 2), ("reverse",)])

    def test_all_short_pipelines(self):
        for width, most in ((1, 4), (2, 3)):
            for length in range(most + 1):
                for pipeline in itertools.product(COMMANDS_BY_WIDTH[width], repeat=length):
                    self.check(width, list(pipeline))

    def test_many_pipelines(self):
        source = numbers(61)
        for number in range(600):
            width = 1 + number % 6
            self.check(width, random_pipeline(source, width, source.choice([1, 2, 3, 5, 8, 16])))

    def test_several_unique_commands_with_reversals_and_sorts_between_them(self):
        source = numbers(62)
        for number in range(400):
            width = 2 + number % 5
            self.check(width, mixed_pipeline(source, width))

    def test_beyond_the_limits_there_is_no_error(self):
        source = numbers(63)
        for _ in range(50):
            self.check(7, random_pipeline(source, 7, 60))


class ManyRepetitions(unittest.TestCase):
    def test_no_repetition_is_the_empty_pipeline(self):
        for width in range(1, 7):
            self.assertEqual(repeated_form(width, [("unique", 0), ("sort", 0), ("reverse",)], 0), ([], [UP]))

    def test_the_position_turns_with_each_repetition(self):
        for times, order in ((MOST, [DOWN]), (MOST - 1, [UP]), (10 ** 15 + 1, [DOWN]), (10 ** 15, [UP])):
            self.assertEqual(repeated_form(2, [("reverse",)], times), ([], order))
            self.assertEqual(
                repeated_form(2, [("unique", 1), ("reverse",)], times), ([(1, [UP])], order))

    def test_an_even_number_of_reversals_turns_nothing(self):
        for times in (MOST, MOST - 1):
            self.assertEqual(
                repeated_form(2, [("reverse",), ("sort", 0), ("reverse",)], times), ([], [(0, "down"), UP]))

    def test_sorted_columns_are_not_turned_from_one_repetition_to_the_next(self):
        pipeline = [("sort", 0), ("reverse",)]
        self.assertEqual(repeated_form(1, pipeline, MOST), ([], [(0, "down"), DOWN]))
        self.assertEqual(repeated_form(1, pipeline, MOST - 1), ([], [(0, "down"), UP]))

    def test_tie_rules_come_from_the_first_repetition(self):
        pipeline = [("unique", 0), ("sort_down", 2), ("unique", 1), ("reverse",)]
        rules = [(0, [UP]), (1, [(2, "down"), UP])]
        self.assertEqual(repeated_form(3, pipeline, MOST), (rules, [(2, "up"), DOWN]))
        self.assertEqual(repeated_form(3, pipeline, MOST - 1), (rules, [(2, "up"), UP]))

    def test_odd_and_even_numbers_give_what_few_repetitions_give(self):
        source = numbers(64)
        for number in range(900):
            width = 1 + number % 6
            pipeline = random_pipeline(source, width, source.choice([0, 1, 2, 4, 7, 16]))
            for times in (7, 8, 10 ** 9 + 1, 2 ** 64, 10 ** 29 + 3, MOST - 1, MOST, source.randint(1, MOST)):
                few = 3 if times % 2 else 4
                with self.subTest(pipeline=pipeline, times=times):
                    self.assertEqual(repeated_form(width, pipeline, times), form_of(width, pipeline * few))

    def test_beyond_the_limit_there_is_no_error(self):
        self.assertEqual(repeated_form(1, [("reverse",)], 10 ** 30), ([], [UP]))
        self.assertEqual(repeated_form(1, [("reverse",)], 10 ** 40 + 1), ([], [DOWN]))


class Errors(unittest.TestCase, Checks):
    def test_the_width(self):
        self.assert_width_checked(repeated_form, [], 1)

    def test_the_pipeline_whatever_the_number(self):
        for times in (0, 1, 2, MOST):
            self.assert_pipeline_checked(lambda pipeline: repeated_form(2, pipeline, times))

    def test_the_number(self):
        for times in (-1, -2, -3, -BIG, -MOST):
            self.assert_error(InvalidNumber, times, repeated_form, 1, [], times)
            self.assert_error(InvalidNumber, times, repeated_form, 2, [("unique", 1), ("reverse",)], times)

    def test_the_order_of_the_checks(self):
        self.assert_error(InvalidWidth, 0, repeated_form, 0, [("drop",)], -1)
        self.assert_error(InvalidCommand, 1, repeated_form, 1, [("sort", 0), ("sort", 1)], -1)

    def test_each_is_a_table_error_and_a_value_error(self):
        for arguments in [(0, [], 1), (1, [("drop",)], 1), (1, [], -1)]:
            for kind in (TableError, ValueError):
                self.assertRaises(kind, repeated_form, *arguments)


class Arguments(unittest.TestCase, Checks):
    PIPELINE = [("sort", 1), ("unique", 0), ("reverse",), ("unique", 1), ("sort_down", 2)]

    def test_by_position_and_by_name(self):
        expected = repeated_form(3, self.PIPELINE, 5)
        self.assertEqual(repeated_form(width=3, pipeline=self.PIPELINE, times=5), expected)
        self.assertEqual(repeated_form(times=5, width=3, pipeline=self.PIPELINE), expected)
        self.assertEqual(repeated_form(3, self.PIPELINE, times=5), expected)
        self.assert_error(InvalidNumber, -4, repeated_form, times=-4, pipeline=[], width=3)

    def test_arguments_stay_unchanged(self):
        for times in (0, 1, 2, 3, MOST):
            self.assert_unchanged(repeated_form, 3, list(self.PIPELINE), times)
            self.assert_unchanged(repeated_form, 3, [], times)

    def test_changing_a_form_changes_nothing_else(self):
        for times in (0, 1, 2, 3, MOST):
            commands = list(self.PIPELINE)
            expected = repr(repeated_form(3, commands, times))
            rules, order = repeated_form(3, commands, times)
            for _, keys in rules:
                keys[:] = ["other"]
            rules.append("more")
            order[0] = "other"
            self.assertEqual(commands, self.PIPELINE)
            self.assertEqual(repr(repeated_form(3, commands, times)), expected)

    def test_no_list_stands_twice_in_a_form(self):
        for times in (0, 1, 2, 3):
            rules, order = repeated_form(3, self.PIPELINE, times)
            lists = [rules, order] + [keys for _, keys in rules]
            self.assertEqual(len({id(found) for found in lists}), len(lists))

    def test_the_kinds_of_the_results(self):
        for times in (0, 1, 2, 3):
            form = repeated_form(3, self.PIPELINE, times)
            self.assertEqual([type(form), type(form[0]), type(form[1])], [tuple, list, list])


if __name__ == "__main__":
    unittest.main()

import itertools
import unittest

from helpers import COMMANDS_BY_WIDTH, WRONG_COMMANDS, Checks, numbers, random_pipeline, random_table
from tablepipe import forms
from tablepipe.errors import InvalidCommand, InvalidWidth, TableError
from tablepipe.forms import equivalent, form_of
from tablepipe.running import positions

UP = ("position", "up")
DOWN = ("position", "down")


def small_tables(width):
    rows = list(itertools.product(range(3), repeat=width))
    return [list(table) for length in range(4) for table in itertools.product(rows, repeat=length)]


def place(keys, row, at):
    """A tuple by which rows are compared as a list of keys says."""
    values = [at if column == "position" else row[column] for column, _ in keys]
    return tuple(value if direction == "up" else -value for value, (_, direction) in zip(values, keys))


def positions_of_form(form, table):
    """What a form says of a table, taken word by word: each rule keeps the best row, the order comes last."""
    rules, order = form
    present = list(range(len(table)))
    for column, keys in rules:
        best = {}
        for at in present:
            value = table[at][column]
            if value not in best or place(keys, table[at], at) < place(keys, table[best[value]], best[value]):
                best[value] = at
        present = sorted(best.values())
    return sorted(present, key=lambda at: place(order, table[at], at))


class Examples(unittest.TestCase):
    def test_form_of(self):
        pipeline = [("sort", 0), ("reverse",), ("unique", 1), ("sort", 1)]
        self.assertEqual(form_of(2, pipeline), ([(1, [(0, "down"), DOWN])], [(1, "up")]))

    def test_form_of_with_two_rules(self):
        pipeline = [("unique", 0), ("sort_down", 2), ("sort", 0), ("unique", 1), ("unique", 0)]
        self.assertEqual(form_of(3, pipeline), ([(0, [UP]), (1, [(0, "up")])], [(0, "up")]))

    def test_equivalent(self):
        one = [("sort", 1), ("sort", 0), ("unique", 1), ("sort", 1)]
        two = [("sort", 0), ("unique", 1), ("sort", 1)]
        self.assertIs(equivalent(2, one, two), True)
        self.assertIs(equivalent(2, [("unique", 0), ("unique", 1)], [("unique", 1), ("unique", 0)]), False)

    def test_the_example_of_point_10(self):
        form = form_of(2, [("unique", 1), ("sort", 1), ("unique", 0)])
        self.assertEqual(form, ([(1, [UP]), (0, [(1, "up")])], [(1, "up")]))

    def test_the_functions_are_defined_in_this_file(self):
        self.assertEqual((form_of.__module__, equivalent.__module__), (forms.__name__, forms.__name__))


class OrdersWithoutUnique(unittest.TestCase):
    def check(self, pipeline, order):
        self.assertEqual(form_of(3, pipeline), ([], order))

    def test_the_empty_pipeline(self):
        self.check([], [UP])

    def test_a_sort_puts_its_key_in_front(self):
        self.check([("sort", 0)], [(0, "up"), UP])
        self.check([("sort_down", 0)], [(0, "down"), UP])
        self.check([("sort", 0), ("sort_down", 2)], [(2, "down"), (0, "up"), UP])

    def test_a_sort_removes_the_key_with_its_column(self):
        self.check([("sort", 0), ("sort_down", 0)], [(0, "down"), UP])
        self.check([("sort_down", 1), ("sort", 0), ("sort", 1)], [(1, "up"), (0, "up"), UP])
        self.check([("sort", 1), ("sort", 1)], [(1, "up"), UP])

    def test_reverse_changes_the_direction_of_every_key(self):
        self.check([("reverse",)], [DOWN])
        self.check([("reverse",), ("reverse",)], [UP])
        self.check([("sort", 0), ("sort_down", 1), ("reverse",)], [(1, "up"), (0, "down"), DOWN])

    def test_a_key_behind_a_reverse_is_not_reversed_by_it(self):
        self.check([("reverse",), ("sort", 0)], [(0, "up"), DOWN])


class Rules(unittest.TestCase):
    def check(self, pipeline, rules, order):
        self.assertEqual(form_of(3, pipeline), (rules, order))

    def test_one_unique(self):
        self.check([("unique", 2)], [(2, [UP])], [UP])
        self.check([("sort", 0), ("unique", 2)], [(2, [(0, "up"), UP])], [(0, "up"), UP])

    def test_a_second_unique_of_a_column_does_not_matter(self):
        self.check([("unique", 0), ("unique", 0)], [(0, [UP])], [UP])
        self.check([("unique", 0), ("reverse",), ("unique", 0)], [(0, [UP])], [DOWN])
        self.check(
            [("unique", 0), ("unique", 1), ("sort", 2), ("unique", 0), ("unique", 1), ("unique", 2)],
            [(0, [UP]), (1, [UP]), (2, [UP])], [(2, "up")])

    def test_the_rules_stand_in_the_order_of_the_commands(self):
        self.check([("unique", 2), ("unique", 0), ("unique", 1)], [(2, [UP]), (0, [UP]), (1, [UP])], [UP])

    def test_the_key_of_the_own_column_is_left_out(self):
        self.check([("sort", 0), ("unique", 0)], [(0, [UP])], [(0, "up")])
        self.check([("sort", 1), ("sort", 0), ("unique", 0)], [(0, [(1, "up"), UP])], [(0, "up")])
        self.check([("sort", 0), ("sort_down", 1), ("unique", 0)], [(0, [(1, "down"), UP])], [(1, "down"), (0, "up")])

    def test_the_own_column_does_not_cut_its_tie_rule(self):
        self.check(
            [("sort", 2), ("sort", 1), ("sort", 0), ("unique", 1)],
            [(1, [(0, "up"), (2, "up"), UP])], [(0, "up"), (1, "up")])

    def test_the_tie_rule_is_cut_behind_the_first_key_of_an_earlier_column(self):
        self.check(
            [("unique", 0), ("sort", 1), ("sort_down", 0), ("sort", 2), ("unique", 1)],
            [(0, [UP]), (1, [(2, "up"), (0, "down")])], [(2, "up"), (0, "down")])

    def test_a_later_column_does_not_cut_an_earlier_tie_rule(self):
        self.check(
            [("sort", 2), ("sort", 1), ("unique", 0), ("unique", 1)],
            [(0, [(1, "up"), (2, "up"), UP]), (1, [(2, "up"), UP])], [(1, "up")])

    def test_the_first_of_several_earlier_columns_cuts(self):
        self.check(
            [("unique", 0), ("unique", 1), ("sort", 0), ("sort_down", 1), ("unique", 2)],
            [(0, [UP]), (1, [UP]), (2, [(1, "down")])], [(1, "down")])
        self.check(
            [("unique", 0), ("unique", 1), ("sort_down", 1), ("sort", 0), ("unique", 2)],
            [(0, [UP]), (1, [UP]), (2, [(0, "up")])], [(0, "up")])

    def test_the_final_order_is_cut_behind_the_first_key_of_any_unique_column(self):
        self.check(
            [("unique", 0), ("unique", 1), ("sort", 1), ("sort", 0), ("sort_down", 2)],
            [(0, [UP]), (1, [UP])], [(2, "down"), (0, "up")])

    def test_the_list_of_keys_itself_is_never_cut(self):
        # The own key that a tie rule leaves out is still there for later rules and for the order.
        self.check(
            [("sort", 1), ("sort", 0), ("unique", 0), ("unique", 1)],
            [(0, [(1, "up"), UP]), (1, [(0, "up")])], [(0, "up")])
        self.check(
            [("sort_down", 2), ("sort", 1), ("unique", 2), ("reverse",), ("unique", 0)],
            [(2, [(1, "up"), UP]), (0, [(1, "down"), (2, "up")])], [(1, "down"), (2, "up")])
        # So are the keys in front of and behind the one that cuts a tie rule, while commands move and turn them.
        self.check(
            [("unique", 0), ("sort", 2), ("sort", 0), ("sort", 1), ("unique", 1), ("reverse",), ("unique", 2)],
            [(0, [UP]), (1, [(0, "up")]), (2, [(1, "down")])], [(1, "down")])
        self.check(
            [("unique", 0), ("sort", 1), ("sort_down", 2), ("sort", 0), ("unique", 2), ("sort", 2)],
            [(0, [UP]), (2, [(0, "up")])], [(2, "up")])

    def test_the_list_of_keys_goes_on_behind_a_unique(self):
        self.check(
            [("sort", 2), ("unique", 0), ("sort", 1), ("unique", 1)],
            [(0, [(2, "up"), UP]), (1, [(2, "up"), UP])], [(1, "up")])
        self.check(
            [("sort", 1), ("unique", 0), ("sort_down", 2), ("unique", 2)],
            [(0, [(1, "up"), UP]), (2, [(1, "up"), UP])], [(2, "down")])


class Meaning(unittest.TestCase):
    """Points 9 to 12, against what running a pipeline leaves."""

    def check_all(self, width, most):
        tables = small_tables(width)
        left_by_form = {}
        form_by_left = {}
        for length in range(most + 1):
            for pipeline in itertools.product(COMMANDS_BY_WIDTH[width], repeat=length):
                form = repr(form_of(width, list(pipeline)))
                left = tuple(tuple(positions(width, list(pipeline), table)) for table in tables)
                # assertEqual would take minutes to show how these long tuples differ.
                self.assertTrue(left_by_form.setdefault(form, left) == left, pipeline)
                self.assertTrue(form_by_left.setdefault(left, form) == form, pipeline)

    def test_all_short_pipelines_of_one_column(self):
        self.check_all(1, 5)

    def test_all_short_pipelines_of_two_columns(self):
        self.check_all(2, 3)

    def test_a_form_tells_what_a_pipeline_leaves(self):
        source = numbers(31)
        for number in range(1500):
            width = 1 + number % 6
            pipeline = random_pipeline(source, width, source.randint(0, 20))
            table = random_table(source, width, source.randint(0, 15), 0, 3)
            with self.subTest(pipeline=pipeline, table=table):
                expected = positions_of_form(form_of(width, pipeline), table)
                self.assertEqual(positions(width, pipeline, table), expected)


class Equivalence(unittest.TestCase):
    def check(self, width, first, second, expected):
        self.assertIs(equivalent(width, first, second), expected)
        self.assertIs(equivalent(width, second, first), expected)

    def test_equivalent_pipelines(self):
        self.check(1, [], [], True)
        self.check(1, [], [("reverse",), ("reverse",)], True)
        self.check(2, [("sort", 0)], [("sort_down", 0), ("sort", 0)], True)
        self.check(2, [("sort_down", 0), ("unique", 0)], [("unique", 0), ("sort_down", 0)], True)
        self.check(2, [("unique", 1), ("unique", 1)], [("unique", 1)], True)
        self.check(2, [("unique", 0), ("reverse",), ("sort", 0)], [("unique", 0), ("sort", 0)], True)

    def test_pipelines_that_are_not_equivalent(self):
        self.check(1, [], [("reverse",)], False)
        self.check(2, [("sort", 0)], [("sort", 1)], False)
        self.check(2, [("sort", 0)], [("sort_down", 0)], False)
        self.check(2, [("unique", 0)], [], False)
        self.check(2, [("unique", 0)], [("unique", 1)], False)
        self.check(2, [("unique", 0), ("reverse",)], [("reverse",), ("unique", 0)], False)

    def test_pipelines_with_the_same_rows_need_not_be_equivalent(self):
        self.check(1, [("sort", 0)], [("sort_down", 0), ("reverse",)], False)
        self.check(1, [("unique", 0), ("sort", 0)], [("reverse",), ("unique", 0), ("sort", 0)], False)

    def test_it_says_what_the_forms_say(self):
        source = numbers(47)
        found = {True: 0, False: 0}
        for number in range(3000):
            width = 1 + number % 3
            first = random_pipeline(source, width, source.randint(0, 6))
            second = random_pipeline(source, width, source.randint(0, 6))
            expected = form_of(width, first) == form_of(width, second)
            found[expected] += 1
            self.check(width, first, second, expected)
        self.assertGreater(min(found.values()), 50)


class Errors(unittest.TestCase, Checks):
    def test_the_width(self):
        for width in (0, -1, -10 ** 12):
            self.assert_error(InvalidWidth, width, form_of, width, [])
            self.assert_error(InvalidWidth, width, equivalent, width, [], [])

    def test_the_first_wrong_command(self):
        for element in WRONG_COMMANDS:
            with self.subTest(element):
                wrong = [("sort", 0), ("unique", 1), element, ("drop",)]
                self.assert_error(InvalidCommand, 0, form_of, 2, [element])
                self.assert_error(InvalidCommand, 2, form_of, 2, wrong)
                self.assert_error(InvalidCommand, 2, equivalent, 2, wrong, [])
                self.assert_error(InvalidCommand, 2, equivalent, 2, [], wrong)

    def test_the_width_comes_before_the_pipelines(self):
        self.assert_error(InvalidWidth, 0, form_of, 0, [("drop",)])
        self.assert_error(InvalidWidth, -1, equivalent, -1, [("sort", 0)], [("drop",)])

    def test_the_first_pipeline_comes_before_the_second(self):
        first = [("sort", 0), ("reverse",), ("sort", 9)]
        second = [("drop",)]
        self.assert_error(InvalidCommand, 2, equivalent, 2, first, second)
        self.assert_error(InvalidCommand, 0, equivalent, 2, second, first)

    def test_each_is_a_table_error_and_a_value_error(self):
        for kind in (TableError, ValueError):
            self.assertRaises(kind, form_of, 0, [])
            self.assertRaises(kind, form_of, 1, [("sort", 1)])
            self.assertRaises(kind, equivalent, 0, [], [])
            self.assertRaises(kind, equivalent, 1, [], [("sort", 1)])


class Arguments(unittest.TestCase, Checks):
    PIPELINE = [("sort", 1), ("unique", 0), ("reverse",), ("unique", 1), ("sort_down", 2), ("unique", 2)]

    def test_by_position_and_by_name(self):
        self.assertEqual(form_of(width=3, pipeline=self.PIPELINE), form_of(3, self.PIPELINE))
        self.assertEqual(form_of(pipeline=self.PIPELINE, width=3), form_of(3, self.PIPELINE))
        self.assertIs(equivalent(width=3, first=self.PIPELINE, second=self.PIPELINE), True)
        self.assertIs(equivalent(second=[], first=self.PIPELINE, width=3), False)
        self.assert_error(InvalidCommand, 0, equivalent, second=[("drop",)], first=[], width=3)

    def test_arguments_stay_unchanged(self):
        self.assert_unchanged(form_of, 3, list(self.PIPELINE))
        self.assert_unchanged(equivalent, 3, list(self.PIPELINE), [("sort", 0), ("unique", 0)])

    def test_changing_a_form_changes_nothing_else(self):
        for pipeline in [[], [("reverse",)], [("unique", 0)], self.PIPELINE]:
            commands = list(pipeline)
            expected = repr(form_of(3, commands))
            rules, order = form_of(3, commands)
            for _, keys in rules:
                keys.append("more")
                keys[0] = "other"
            rules.append("more")
            order[0] = "other"
            self.assertEqual(commands, pipeline)
            self.assertEqual(repr(form_of(3, commands)), expected)

    def test_no_list_stands_twice_in_a_form(self):
        for pipeline in [[("unique", 0)], [("unique", 0), ("unique", 1), ("unique", 2)], self.PIPELINE]:
            rules, order = form_of(3, pipeline)
            lists = [rules, order] + [keys for _, keys in rules]
            self.assertEqual(len({id(found) for found in lists}), len(lists))

    def test_changing_the_pipeline_does_not_change_an_earlier_form(self):
        commands = list(self.PIPELINE)
        form = form_of(3, commands)
        expected = repr(form)
        commands.clear()
        self.assertEqual(repr(form), expected)

    def test_the_kinds_of_the_results(self):
        form = form_of(3, self.PIPELINE)
        self.assertEqual([type(form), type(form[0]), type(form[1])], [tuple, list, list])
        for rule in form[0]:
            self.assertEqual([type(rule), type(rule[0]), type(rule[1])], [tuple, int, list])
        for key in form[1] + [key for _, keys in form[0] for key in keys]:
            self.assertEqual([type(key), type(key[1])], [tuple, str])

    def test_beyond_the_limits_there_is_no_error(self):
        pipeline = [("sort", column) for column in range(8)] + [("reverse",), ("unique", 7)] * 50
        keys = [(column, "down") for column in range(7, -1, -1)]
        self.assertEqual(form_of(8, pipeline), ([(7, keys[1:] + [DOWN])], [(7, "up")]))
        self.assertIs(equivalent(8, pipeline, pipeline), True)


if __name__ == "__main__":
    unittest.main()

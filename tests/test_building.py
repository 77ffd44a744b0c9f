import itertools
import unittest

from helpers import BIG, Checks, all_forms, as_lists, mixed_pipeline, numbers, random_pipeline
from tablepipe.building import pipeline_of
from tablepipe.checks import is_command
from tablepipe.errors import InvalidForm, InvalidWidth, TableError
from tablepipe.forms import form_of

UP = ("position", "up")
DOWN = ("position", "down")


class Building(unittest.TestCase, Checks):
    def check_form(self, width, form):
        pipeline = pipeline_of(width, form)
        self.assertIs(type(pipeline), list)
        for command in pipeline:
            self.assertIs(type(command), tuple)
            self.assertTrue(is_command(width, command), command)
        self.assertEqual(form_of(width, pipeline), form)

    def check_impossible(self, width, index, rules, order):
        self.assert_error(InvalidForm, index, pipeline_of, width, (rules, order))


class Examples(Building):
    def test_a_form(self):
        form = ([(1, [(0, "down"), ("position", "up")])], [(1, "up")])
        self.assertIs(form_of(2, pipeline_of(2, form)) == form, True)

    def test_an_impossible_order(self):
        self.check_impossible(3, 1, [(1, [(0, "up"), UP])], [(2, "up"), UP])

    def test_the_function_is_defined_in_this_file(self):
        self.assertEqual(pipeline_of.__module__, "tablepipe.building")


class Forms(Building):
    def test_without_rules(self):
        self.check_form(1, ([], [UP]))
        self.check_form(1, ([], [DOWN]))
        self.check_form(1, ([], [(0, "down"), UP]))
        self.check_form(6, ([], [(3, "down"), (0, "up"), (5, "down"), (1, "up"), (2, "up"), (4, "down"), DOWN]))

    def test_the_rules_and_the_order_of_the_document(self):
        self.check_form(2, ([(1, [(0, "down"), DOWN])], [(1, "up")]))
        self.check_form(3, ([(0, [UP]), (1, [(0, "up")])], [(0, "up")]))
        self.check_form(2, ([(1, [UP]), (0, [(1, "up")])], [(1, "up")]))

    def test_an_order_may_go_on_from_a_tie_rule(self):
        self.check_form(3, ([(1, [(0, "up"), UP])], [(0, "up"), UP]))
        self.check_form(3, ([(1, [(0, "up"), UP])], [(0, "down"), DOWN]))
        self.check_form(3, ([(1, [(0, "up"), UP])], [(2, "up"), (0, "down"), UP]))
        self.check_form(3, ([(1, [(0, "up"), UP])], [(0, "down"), (2, "down"), DOWN]))

    def test_a_key_of_an_earlier_column_may_stand_last_at_any_time(self):
        self.check_form(3, ([(1, [(0, "up"), UP])], [(1, "down")]))
        self.check_form(3, ([(1, [(0, "up"), UP]), (2, [(1, "up")]), (0, [(1, "down")])], [(2, "up")]))
        self.check_form(3, ([(1, [UP]), (2, [(0, "up"), (1, "up")]), (0, [(2, "down")])], [(1, "up")]))

    def test_the_own_key_may_be_the_only_one_that_is_left_over(self):
        self.check_form(2, ([(1, [(0, "up"), UP]), (0, [DOWN])], [(0, "up")]))
        self.check_form(3, ([(1, [(2, "down"), (0, "up"), UP]), (0, [(2, "up"), DOWN])], [(2, "up"), (0, "up")]))

    def test_every_form_of_few_columns(self):
        self.assertEqual((len(all_forms(1)), len(all_forms(2))), (14, 362))
        for width in (1, 2):
            for form in all_forms(width):
                self.check_form(width, as_lists(*form))

    def test_the_forms_of_many_pipelines(self):
        source = numbers(12)
        for number in range(4000):
            width = 1 + number % 6
            pipeline = random_pipeline(source, width, source.choice([0, 1, 2, 4, 7, 11, 16]))
            self.check_form(width, form_of(width, pipeline))

    def test_the_forms_of_several_unique_commands_between_others(self):
        source = numbers(13)
        for number in range(3000):
            width = 2 + number % 5
            self.check_form(width, form_of(width, mixed_pipeline(source, width)))

    def test_beyond_the_limits_there_is_no_error(self):
        source = numbers(14)
        for _ in range(300):
            self.check_form(7, form_of(7, random_pipeline(source, 7, 80)))


class ImpossibleLists(Building):
    """Lists of keys that are no tie rule and no order, whatever stands before them."""

    def check_everywhere(self, keys):
        """As an order and as a tie rule of three columns, with nothing and with rules before them."""
        self.check_impossible(3, 0, [], keys)
        self.check_impossible(3, 0, [(2, keys)], [UP])
        self.check_impossible(3, 1, [(2, [UP])], keys)
        self.check_impossible(3, 1, [(2, [UP]), (1, keys)], [UP])
        self.check_impossible(3, 2, [(2, [UP]), (1, [UP])], keys)

    def test_the_empty_list(self):
        self.check_everywhere([])

    def test_an_unknown_column(self):
        for column in (3, 7, -1, -2, -3, BIG, -BIG):
            self.check_everywhere([(column, "up"), UP])
            self.check_everywhere([(0, "up"), (column, "down"), UP])
            self.check_everywhere([(column, "up")])

    def test_an_unknown_direction(self):
        for direction in ("", "Up", "DOWN", "sideways", "sort", "sort_down", "position", "up "):
            self.check_everywhere([("position", direction)])
            self.check_everywhere([(0, "up"), ("position", direction)])
            self.check_everywhere([(0, direction), UP])
            self.check_everywhere([(0, direction), (2, "up")])
            self.check_everywhere([(2, direction)])

    def test_a_repeated_column(self):
        self.check_everywhere([(0, "up"), (0, "up"), UP])
        self.check_everywhere([(0, "up"), (0, "down"), UP])
        self.check_everywhere([(0, "up"), (0, "down"), (2, "up")])
        self.check_everywhere([(0, "down"), (2, "up"), (0, "down"), UP])

    def test_a_position_that_is_not_the_last_key(self):
        self.check_everywhere([UP, (0, "up")])
        self.check_everywhere([UP, (2, "up")])
        self.check_everywhere([(0, "up"), DOWN, (2, "down")])
        self.check_everywhere([UP, UP])
        self.check_everywhere([UP, DOWN])
        self.check_everywhere([(0, "up"), UP, (0, "up"), UP])

    def test_a_list_that_ends_too_early(self):
        self.check_everywhere([(0, "up")])
        self.check_impossible(2, 0, [], [(0, "up"), (1, "down")])
        self.check_impossible(3, 1, [(2, [UP])], [(0, "up"), (1, "down")])

    def test_a_list_that_goes_on_behind_a_unique_column(self):
        self.check_impossible(3, 1, [(2, [UP])], [(2, "up"), UP])
        self.check_impossible(3, 1, [(2, [UP])], [(2, "up"), (0, "up")])
        self.check_impossible(3, 1, [(2, [UP]), (1, [(2, "up"), UP])], [(2, "up")])
        self.check_impossible(3, 2, [(2, [UP]), (1, [UP])], [(2, "up"), (1, "up")])
        self.check_impossible(3, 2, [(2, [UP]), (1, [UP])], [(1, "up"), (2, "up")])


class ImpossibleRules(Building):
    def test_an_unknown_column(self):
        for column in (2, 5, -1, -2, BIG, -BIG):
            self.check_impossible(2, 0, [(column, [UP])], [UP])
            self.check_impossible(2, 1, [(0, [UP]), (column, [UP])], [UP])
            self.check_impossible(2, 1, [(0, [UP]), (column, [(0, "up")])], [(0, "up")])

    def test_a_column_that_has_a_rule_already(self):
        self.check_impossible(2, 1, [(0, [UP]), (0, [UP])], [UP])
        self.check_impossible(2, 1, [(0, [UP]), (0, [DOWN])], [(0, "up")])
        self.check_impossible(2, 2, [(0, [UP]), (1, [UP]), (0, [UP])], [UP])
        self.check_impossible(2, 2, [(0, [UP]), (1, [UP]), (0, [(1, "up")])], [(1, "up")])

    def test_a_tie_rule_with_the_own_column(self):
        self.check_impossible(2, 0, [(0, [(0, "up"), UP])], [UP])
        self.check_impossible(2, 0, [(0, [(1, "up"), (0, "up"), UP])], [UP])
        self.check_impossible(2, 0, [(0, [(0, "up")])], [(0, "up")])
        self.check_impossible(2, 1, [(1, [UP]), (0, [(0, "up"), (1, "up")])], [(0, "up")])

    def test_a_tie_rule_with_a_later_column_at_its_end(self):
        self.check_impossible(2, 0, [(0, [(1, "up")]), (1, [UP])], [UP])

    def test_a_tie_rule_that_no_pipeline_comes_to(self):
        # Column 0 decided before the position, and nothing takes it away.
        self.check_impossible(3, 1, [(1, [(0, "up"), UP]), (2, [UP])], [UP])
        self.check_impossible(4, 1, [(1, [(0, "up"), UP]), (2, [(3, "up"), UP])], [UP])
        self.check_impossible(4, 1, [(1, [(0, "up"), (3, "up"), UP]), (2, [(0, "up"), UP])], [UP])
        self.check_impossible(4, 2, [(1, [(0, "up"), UP]), (2, [(0, "down"), UP]), (3, [UP])], [UP])

    def test_a_position_behind_a_key_of_an_earlier_column(self):
        self.check_impossible(3, 2, [(0, [UP]), (1, [(0, "up")]), (2, [UP])], [UP])
        self.check_impossible(3, 2, [(1, [(0, "up"), UP]), (0, [UP]), (2, [UP])], [UP])

    def test_the_first_impossible_rule_is_named(self):
        self.check_impossible(2, 0, [(7, [UP]), (0, []), (0, [UP])], [])
        self.check_impossible(2, 1, [(1, [UP]), (0, []), (0, [UP])], [])
        self.check_impossible(2, 2, [(1, [UP]), (0, [UP]), (0, [UP])], [])
        self.check_impossible(2, 2, [(1, [UP]), (0, [UP])], [])


class ImpossibleOrders(Building):
    def test_an_order_that_no_pipeline_comes_to(self):
        self.check_impossible(2, 1, [(1, [(0, "up"), UP])], [UP])
        self.check_impossible(2, 1, [(1, [(0, "up"), UP])], [DOWN])
        self.check_impossible(3, 1, [(2, [(0, "up"), (1, "up"), UP])], [(0, "up"), UP])
        self.check_impossible(3, 2, [(2, [(0, "up"), UP]), (1, [(0, "up"), UP])], [UP])

    def test_a_position_behind_a_key_of_a_unique_column(self):
        self.check_impossible(2, 2, [(1, [UP]), (0, [(1, "up")])], [UP])
        self.check_impossible(2, 2, [(1, [(0, "up"), UP]), (0, [UP])], [UP])
        self.check_impossible(3, 2, [(1, [(0, "up"), UP]), (0, [UP])], [(2, "up"), DOWN])

    def test_possible_rules_with_another_order(self):
        for order in ([UP], [DOWN], [(0, "up")], [(1, "down")], [(2, "up"), (1, "up")]):
            self.check_form(3, ([(1, [UP]), (0, [DOWN])], order))
        for order in ([(2, "up")], [(0, "up"), (1, "up")], [(2, "up"), (2, "up"), UP], [(1, "up"), UP]):
            self.check_impossible(3, 2, [(1, [UP]), (0, [DOWN])], order)


class AllSmallForms(Building):
    """Exactly the forms that some pipeline has are possible, and the index is that of the first impossible part."""

    def check_all(self, width, longest):
        self.width = width
        self.forms = all_forms(width)
        self.beginnings = {rules[:many] for rules, _ in self.forms for many in range(len(rules) + 1)}
        columns = [*range(-1, width + 1), "position"]
        keys = list(itertools.product(columns, ["up", "down"])) + [(0, "left")]
        self.lists = [found for length in range(longest + 1) for found in itertools.product(keys, repeat=length)]
        self.check_behind(())

    def check_behind(self, rules):
        for order in self.lists:
            self.check_one(rules, order)
        for column in range(-1, self.width + 1):
            for keys in self.lists:
                more = rules + ((column, keys),)
                if more in self.beginnings:
                    self.check_behind(more)
                else:
                    self.check_one(more, (UP,))

    def check_one(self, rules, order):
        if (rules, order) in self.forms:
            self.check_form(self.width, as_lists(rules, order))
            return
        wrong = [at for at in range(len(rules)) if rules[:at + 1] not in self.beginnings]
        self.check_impossible(self.width, wrong[0] if wrong else len(rules), *as_lists(rules, order))

    def test_of_one_column(self):
        self.check_all(1, 3)

    def test_of_two_columns(self):
        self.check_all(2, 3)


class Errors(unittest.TestCase, Checks):
    def test_the_width(self):
        self.assert_width_checked(pipeline_of, ([], [UP]))

    def test_the_width_comes_before_the_form(self):
        self.assert_error(InvalidWidth, 0, pipeline_of, 0, ([(0, [])], []))

    def test_each_is_a_table_error_and_a_value_error(self):
        for kind in (TableError, ValueError):
            self.assertRaises(kind, pipeline_of, 0, ([], [UP]))
            self.assertRaises(kind, pipeline_of, 1, ([], []))


class Arguments(unittest.TestCase, Checks):
    FORM = ([(1, [(0, "down"), UP]), (0, [(2, "up"), (1, "up")])], [(2, "down"), (0, "up")])

    def test_by_position_and_by_name(self):
        expected = pipeline_of(3, self.FORM)
        self.assertEqual(pipeline_of(width=3, form=self.FORM), expected)
        self.assertEqual(pipeline_of(form=self.FORM, width=3), expected)
        self.assertEqual(pipeline_of(3, form=self.FORM), expected)
        self.assert_error(InvalidForm, 0, pipeline_of, form=([], []), width=3)

    def test_arguments_stay_unchanged(self):
        self.assert_unchanged(pipeline_of, 3, self.FORM)
        self.assert_unchanged(pipeline_of, 1, ([], [UP]))

    def test_after_an_error_arguments_are_unchanged(self):
        form = ([(1, [UP]), (0, [(0, "up"), UP])], [(1, "up")])
        expected = repr(form)
        self.assertRaises(InvalidForm, pipeline_of, 2, form)
        self.assertEqual(repr(form), expected)

    def test_changing_a_pipeline_changes_nothing_else(self):
        for form in (self.FORM, ([], [UP]), ([], [DOWN]), ([(0, [UP])], [UP])):
            expected = list(pipeline_of(3, form))
            before = repr(form)
            pipeline = pipeline_of(3, form)
            pipeline[:] = ["other"]
            self.assertEqual(repr(form), before)
            self.assertEqual(pipeline_of(3, form), expected)

    def test_changing_the_form_does_not_change_an_earlier_pipeline(self):
        form = form_of(3, pipeline_of(3, self.FORM))
        pipeline = pipeline_of(3, form)
        expected = list(pipeline)
        form[0].clear()
        form[1].clear()
        self.assertEqual(pipeline, expected)


if __name__ == "__main__":
    unittest.main()

import copy
import itertools
import unittest

from helpers import (
    BIG, COMMANDS_BY_WIDTH, Checks, all_forms, as_lists, full_pipeline, mixed_pipeline, numbers, pipeline_of_sixteen,
    random_pipeline, random_table, sorts_of_all, written_otherwise,
)
from tablepipe import learning
from tablepipe.building import pipeline_of
from tablepipe.errors import InvalidCommand, InvalidTable, InvalidWidth, TableError
from tablepipe.forms import form_of
from tablepipe.learning import Box, learn
from tablepipe.running import positions

UP = ("position", "up")
DOWN = ("position", "down")
MOST_QUESTIONS = 10000


class Watched(Box):
    """A box that keeps a copy of each table that it is asked, and of its answer."""

    def __init__(self, width, pipeline):
        Box.__init__(self, width, pipeline)
        self.asked = []

    def answer(self, table):
        before = copy.deepcopy(table)
        found = Box.answer(self, table)
        self.asked.append((before, list(found)))
        return found


class Learning(unittest.TestCase):
    def check(self, width, pipeline):
        """Learn the form, and check the questions; return how many there are."""
        expected = form_of(width, pipeline)
        box = Box(width, pipeline)
        self.assertEqual(learn(box), expected, (width, pipeline))
        self.assertLessEqual(box.questions(), MOST_QUESTIONS)
        self.assertEqual(box.width(), width)
        return box.questions()


class Examples(unittest.TestCase):
    def test_learn(self):
        found = learn(Box(2, [("sort", 0), ("unique", 1)]))
        self.assertEqual(found, ([(1, [(0, "up"), UP])], [(0, "up"), UP]))

    def test_both_are_defined_in_this_file_with_their_methods(self):
        self.assertEqual((Box.__module__, learn.__module__), (learning.__name__, learning.__name__))
        for name in ("__init__", "width", "answer", "questions"):
            self.assertIn(name, vars(Box))


class Answers(unittest.TestCase):
    def test_the_empty_pipeline_and_the_empty_table(self):
        for width in range(1, 7):
            box = Box(width, [])
            self.assertEqual(box.answer([]), [])
            self.assertEqual(box.answer([(1,) * width] * 3), [0, 1, 2])
            self.assertEqual(Box(width, [("unique", 0), ("reverse",)]).answer([]), [])

    def test_equal_rows_and_values_at_both_limits(self):
        table = [(BIG, -BIG), (-BIG, BIG), (BIG, -BIG), (-BIG, -BIG), (BIG, BIG)]
        self.assertEqual(Box(2, [("sort", 0)]).answer(table), [1, 3, 0, 2, 4])
        self.assertEqual(Box(2, [("sort_down", 1), ("unique", 0)]).answer(table), [1, 4])
        self.assertEqual(Box(2, [("reverse",), ("unique", 1)]).answer(table), [4, 3])

    def test_an_answer_is_what_positions_gives(self):
        source = numbers(101)
        for number in range(600):
            width = 1 + number % 6
            pipeline = [random_pipeline(source, width, 5), pipeline_of_sixteen(source, width),
                        full_pipeline(source, width)][number % 3]
            box = Box(width, pipeline)
            for length in (0, 1, 2, 9, 40):
                table = random_table(source, width, length, -3, source.choice([-3, 0, 3, 30]))
                self.assertEqual(box.answer(table), positions(width, pipeline, table))

    def test_a_table_with_more_rows_than_the_limit(self):
        source = numbers(102)
        table = random_table(source, 2, 200, -9, 9)
        pipeline = [("sort", 1), ("unique", 0)]
        self.assertEqual(Box(2, pipeline).answer(table), positions(2, pipeline, table))

    def test_the_width(self):
        for width in range(1, 9):
            box = Box(width, [])
            self.assertEqual(box.width(), width)
            box.answer([])
            self.assertEqual(box.width(), width)
            self.assertEqual(box.questions(), 1)


class Questions(unittest.TestCase, Checks):
    def test_each_table_is_counted(self):
        box = Box(2, [("unique", 1)])
        for many in range(30):
            self.assertEqual(box.questions(), many)
            self.assertEqual(box.questions(), many)
            box.answer([(many, 1)] * (many % 4))

    def test_a_table_with_a_wrong_row_is_not_counted(self):
        box = Box(2, [("unique", 1)])
        for table in ([()], [(1,)], [(1, 2, 3)], [(1, 2), (1, 3), (1,)], [(1, 2), (), (1,)]):
            self.assertRaises(InvalidTable, box.answer, table)
            self.assertEqual(box.questions(), 0)
        box.answer([(1, 2), (3, 4)])
        self.assertRaises(InvalidTable, box.answer, [(1, 2), (3,)])
        self.assertEqual(box.questions(), 1)
        self.assertEqual(box.answer([(1, 2), (3, 2)]), [0])
        self.assertEqual(box.questions(), 2)

    def test_boxes_do_not_count_each_others_questions(self):
        commands = [("unique", 0)]
        first, second = Box(1, commands), Box(1, commands)
        first.answer([(1,)])
        learn(first)
        self.assertEqual(second.questions(), 0)
        second.answer([])
        self.assertEqual(second.questions(), 1)


class AllForms(Learning):
    def test_of_one_and_two_columns(self):
        for width in (1, 2):
            for form in all_forms(width):
                pipeline = pipeline_of(width, as_lists(*form))
                self.assertEqual(learn(Box(width, pipeline)), as_lists(*form))

    def test_of_short_pipelines(self):
        for width, most in ((1, 4), (2, 3), (3, 2)):
            for length in range(most + 1):
                for pipeline in itertools.product(COMMANDS_BY_WIDTH[width], repeat=length):
                    self.check(width, list(pipeline))


class ManyPipelines(Learning):
    def test_the_empty_pipeline_and_reversals(self):
        for width in range(1, 7):
            self.assertEqual(learn(Box(width, [])), ([], [UP]))
            self.assertEqual(learn(Box(width, [("reverse",)])), ([], [DOWN]))
            self.assertEqual(learn(Box(width, [("reverse",)] * 16)), ([], [UP]))

    def test_sorts_without_unique_commands(self):
        source = numbers(103)
        for number in range(300):
            width = 1 + number % 6
            self.check(width, sorts_of_all(source, width)[number % 4:] + [("reverse",)] * (number % 3))

    def test_random_pipelines(self):
        source = numbers(104)
        for number in range(600):
            width = 1 + number % 6
            self.check(width, random_pipeline(source, width, source.choice([1, 2, 3, 5, 8, 12, 16])))

    def test_pipelines_of_sixteen_commands(self):
        source = numbers(105)
        for number in range(300):
            self.check(1 + number % 6, pipeline_of_sixteen(source, 1 + number % 6))

    def test_unique_commands_of_all_columns_between_sorts_by_all_columns(self):
        source = numbers(106)
        for number in range(400):
            self.check(6 - number % 4, full_pipeline(source, 6 - number % 4))

    def test_several_unique_commands_with_other_commands_between_them(self):
        source = numbers(107)
        for number in range(600):
            width = 2 + number % 5
            self.check(width, mixed_pipeline(source, width))

    def test_every_turn_of_four_columns(self):
        source = numbers(108)
        for columns in itertools.permutations(range(4)):
            for _ in range(6):
                uniques = [("unique", column) for column in columns]
                self.check(4, sorts_of_all(source, 4) + uniques)
                pipeline = []
                for command in uniques:
                    pipeline += [command, source.choice(COMMANDS_BY_WIDTH[4][:1] + sorts_of_all(source, 4))]
                self.check(4, pipeline)

    def test_unique_commands_of_the_same_columns_again(self):
        source = numbers(109)
        for number in range(200):
            width = 1 + number % 6
            pipeline = pipeline_of_sixteen(source, width)
            self.check(width, pipeline + sorts_of_all(source, width) + pipeline)

    def test_equivalent_pipelines_give_the_same(self):
        source = numbers(110)
        for number in range(300):
            width = 1 + number % 6
            pipeline = mixed_pipeline(source, width)
            self.assertEqual(learn(Box(width, pipeline)), learn(Box(width, written_otherwise(source, pipeline))))

    def test_beyond_the_limits_there_is_no_error(self):
        source = numbers(111)
        for _ in range(30):
            self.check(7, random_pipeline(source, 7, 60))
        width = 12
        sorts = [("sort", column) for column in range(width)]
        self.check(width, sorts + [("unique", column) for column in reversed(range(width))])


class TheBoxAfterwards(unittest.TestCase):
    def test_learning_only_asks_right_tables_of_at_most_three_rows(self):
        source = numbers(112)
        for number in range(150):
            width = 1 + number % 6
            pipeline = full_pipeline(source, width) if number % 2 else mixed_pipeline(source, width)
            box = Watched(width, pipeline)
            self.assertEqual(learn(box), form_of(width, pipeline))
            self.assertEqual(box.questions(), len(box.asked))
            self.assertLessEqual(len(box.asked), MOST_QUESTIONS)
            for table, answer in box.asked:
                self.assertLessEqual(len(table), 3)
                self.assertEqual(answer, positions(width, pipeline, table))

    def test_twice_for_one_box(self):
        source = numbers(113)
        for number in range(200):
            width = 1 + number % 6
            pipeline = full_pipeline(source, width) if number % 2 else pipeline_of_sixteen(source, width)
            box = Box(width, pipeline)
            expected = form_of(width, pipeline)
            self.assertEqual(learn(box), expected)
            first = box.questions()
            self.assertEqual(learn(box), expected)
            self.assertLessEqual(first, MOST_QUESTIONS)
            self.assertLessEqual(box.questions() - first, MOST_QUESTIONS)

    def test_a_box_that_has_answered_tables_before_and_answers_as_before(self):
        source = numbers(114)
        for number in range(200):
            width = 1 + number % 6
            pipeline = full_pipeline(source, width) if number % 2 else mixed_pipeline(source, width)
            tables = [random_table(source, width, length) for length in (0, 1, 3, 12, 40)]
            box = Box(width, pipeline)
            before = [box.answer(table) for table in tables]
            self.assertRaises(InvalidTable, box.answer, [()])
            self.assertEqual(learn(box), form_of(width, pipeline))
            asked = box.questions()
            self.assertLessEqual(asked, MOST_QUESTIONS + len(tables))
            self.assertEqual([box.answer(table) for table in tables], before)
            self.assertEqual(box.questions(), asked + len(tables))
            self.assertEqual(box.width(), width)


class Errors(unittest.TestCase, Checks):
    def test_the_width(self):
        self.assert_width_checked(Box, [])

    def test_the_pipeline(self):
        self.assert_pipeline_checked(lambda pipeline: Box(2, pipeline))

    def test_the_order_of_the_checks(self):
        self.assert_error(InvalidWidth, -3, Box, -3, [("drop",)])
        self.assert_error(InvalidCommand, 1, Box, 1, [("sort", 0), ("sort", 1)])

    def test_the_table(self):
        for pipeline in ([], [("unique", 0), ("sort", 1)], [("reverse",)]):
            self.assert_table_checked(Box(2, pipeline).answer)

    def test_each_is_a_table_error_and_a_value_error(self):
        for kind in (TableError, ValueError):
            self.assertRaises(kind, Box, 0, [])
            self.assertRaises(kind, Box, 1, [("sort", 1)])
            self.assertRaises(kind, Box(1, []).answer, [()])


class Arguments(unittest.TestCase, Checks):
    PIPELINE = [("sort_down", 1), ("unique", 0), ("reverse",), ("unique", 2)]
    TABLE = [(1, 2, 3), (1, 4, 3), (2, 2, 2), (1, 2, 3)]

    def test_by_position_and_by_name(self):
        expected = Box(3, self.PIPELINE).answer(self.TABLE)
        for box in (Box(width=3, pipeline=self.PIPELINE), Box(pipeline=self.PIPELINE, width=3),
                    Box(3, pipeline=self.PIPELINE)):
            self.assertEqual(box.answer(table=self.TABLE), expected)
            self.assertEqual(learn(box=box), form_of(3, self.PIPELINE))
        self.assert_error(InvalidTable, 1, Box(1, []).answer, table=[(1,), ()])

    def test_arguments_stay_unchanged(self):
        pipeline, table = list(self.PIPELINE), list(self.TABLE)
        box = Box(3, pipeline)
        box.answer(table)
        learn(box)
        self.assertEqual((pipeline, table), (self.PIPELINE, self.TABLE))
        self.assert_unchanged(box.answer, [])

    def test_the_passed_pipeline_may_be_changed_afterwards(self):
        changes = [list.clear, list.reverse, lambda commands: commands.append(("drop",)),
                   lambda commands: commands.__setitem__(0, ("unique", 7))]
        for change in changes:
            pipeline = list(self.PIPELINE)
            box = Box(3, pipeline)
            expected = box.answer(self.TABLE)
            change(pipeline)
            self.assertEqual(box.answer(self.TABLE), expected)
            self.assertEqual(learn(box), form_of(3, self.PIPELINE))

    def test_changed_results_change_nothing_else(self):
        box = Box(3, self.PIPELINE)
        expected = list(box.answer(self.TABLE))
        box.answer(self.TABLE)[:] = [7]
        self.assertEqual(box.answer(self.TABLE), expected)
        form = repr(learn(box))
        rules, order = learn(box)
        for _, keys in rules:
            keys[:] = ["other"]
        rules.append("more")
        order[0] = "other"
        self.assertEqual(repr(learn(box)), form)
        self.assertEqual(box.answer(self.TABLE), expected)

    def test_a_changed_table_does_not_change_an_earlier_answer(self):
        box = Box(3, [])
        table = list(self.TABLE)
        found = box.answer(table)
        table.clear()
        self.assertEqual(found, [0, 1, 2, 3])
        self.assertEqual(box.answer(self.TABLE), [0, 1, 2, 3])

    def test_no_list_stands_twice_in_a_form(self):
        for pipeline in ([], self.PIPELINE, [("unique", 0), ("unique", 1), ("unique", 2)]):
            rules, order = learn(Box(3, pipeline))
            lists = [rules, order] + [keys for _, keys in rules]
            self.assertEqual(len({id(found) for found in lists}), len(lists))

    def test_the_kinds_of_the_results(self):
        box = Box(3, self.PIPELINE)
        form = learn(box)
        self.assertEqual([type(form), type(form[0]), type(form[1])], [tuple, list, list])
        self.assertEqual({type(key) for _, keys in form[0] for key in keys} | {type(rule) for rule in form[0]}, {tuple})
        self.assertEqual([type(box.answer([])), type(box.questions()), type(box.width())], [list, int, int])


if __name__ == "__main__":
    unittest.main()

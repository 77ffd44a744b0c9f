"""Functions of different files used together, and the interface as a whole."""

import copy
import importlib
import inspect
import unittest

from helpers import (
    BIG, Checks, full_pipeline, mixed_pipeline, numbers, pipeline_of_sixteen, random_pipeline, random_table,
    sorts_of_all, written_otherwise,
)
from tablepipe import errors
from tablepipe.building import pipeline_of
from tablepipe.forms import equivalent, form_of
from tablepipe.learning import Box, learn
from tablepipe.live import Live
from tablepipe.parting import parting_table
from tablepipe.readings import read_pipeline
from tablepipe.reasons import why_missing
from tablepipe.repeating import repeated_form
from tablepipe.running import positions, run
from tablepipe.texts import show_pipeline

INTERFACE = {
    "running": {"run": ["width", "pipeline", "table"], "positions": ["width", "pipeline", "table"]},
    "forms": {"form_of": ["width", "pipeline"], "equivalent": ["width", "first", "second"]},
    "parting": {"parting_table": ["width", "first", "second"]},
    "building": {"pipeline_of": ["width", "form"]},
    "repeating": {"repeated_form": ["width", "pipeline", "times"]},
    "reasons": {"why_missing": ["width", "pipeline", "table", "position"]},
    "learning": {"learn": ["box"], "Box": ["width", "pipeline"]},
    "live": {"Live": ["width", "pipeline", "table"]},
    "texts": {"show_pipeline": ["pipeline"]},
    "readings": {"read_pipeline": ["text"]},
}
METHODS = [
    (Box, "width", []), (Box, "answer", ["table"]), (Box, "questions", []),
    (Live, "table", []), (Live, "result", []), (Live, "insert", ["index", "row"]), (Live, "remove", ["index"]),
]


class Interface(unittest.TestCase):
    def test_each_name_is_defined_in_its_file_with_its_arguments(self):
        for file, names in INTERFACE.items():
            module = importlib.import_module(f"tablepipe.{file}")
            for name, arguments in names.items():
                with self.subTest(name):
                    found = getattr(module, name)
                    self.assertEqual((found.__module__, found.__name__), (module.__name__, name))
                    self.assertEqual(list(inspect.signature(found).parameters), arguments)

    def test_each_method_is_defined_in_its_class_with_its_arguments(self):
        for kind, name, arguments in METHODS:
            with self.subTest(name):
                self.assertIn(name, vars(kind))
                self.assertEqual(list(inspect.signature(vars(kind)[name]).parameters), ["self"] + arguments)

    def test_only_the_listed_error_classes_exist(self):
        for file in INTERFACE:
            module = importlib.import_module(f"tablepipe.{file}")
            for value in vars(module).values():
                if isinstance(value, type) and issubclass(value, BaseException):
                    self.assertIs(value, getattr(errors, value.__name__))


class Together(unittest.TestCase, Checks):
    def cases(self, seed, many):
        source = numbers(seed)
        for number in range(many):
            width = 1 + number % 6
            pipeline = [random_pipeline(source, width, source.choice([0, 1, 2, 5])), pipeline_of_sixteen(source, width),
                        full_pipeline(source, width), mixed_pipeline(source, max(width, 2))][number % 4]
            yield source, max(width, 2) if number % 4 == 3 else width, pipeline

    def check_same(self, width, first, second, table):
        """All that the program says of two equivalent pipelines is the same."""
        self.assertIs(equivalent(width, first, second), True)
        self.assertIsNone(parting_table(width, first, second))
        self.assertEqual(form_of(width, first), form_of(width, second))
        self.assertEqual(run(width, first, table), run(width, second, table))
        self.assertEqual(positions(width, first, table), Box(width, second).answer(table))
        self.assertEqual(Live(width, first, table), Live(width, second, table))
        self.assertEqual(Live(width, first, table).result(), run(width, second, table))

    def test_a_learned_form_is_built_again(self):
        for source, width, pipeline in self.cases(401, 200):
            form = learn(Box(width, pipeline))
            built = pipeline_of(width, form)
            self.check_same(width, pipeline, built, random_table(source, width, 30, -2, 6))
            self.assertEqual(learn(Box(width, built)), form)

    def test_a_pipeline_that_is_shown_and_read(self):
        for source, width, pipeline in self.cases(402, 200):
            found = read_pipeline(show_pipeline(pipeline))
            self.check_same(width, pipeline, found, random_table(source, width, 20, -2, 4))
            built = pipeline_of(width, form_of(width, found))
            self.assertEqual(read_pipeline(show_pipeline(built)), built)

    def test_a_pipeline_that_is_written_otherwise(self):
        for source, width, pipeline in self.cases(403, 200):
            other = written_otherwise(source, pipeline)
            self.check_same(width, pipeline, other, random_table(source, width, 20, -2, 4))
            self.assertEqual(learn(Box(width, pipeline)), learn(Box(width, other)))

    def test_a_repeated_form_is_learned_and_built(self):
        for source, width, pipeline in self.cases(404, 200):
            times = source.randint(0, 9)
            form = repeated_form(width, pipeline, times)
            self.assertEqual(learn(Box(width, pipeline * times)), form)
            self.check_same(width, pipeline * times, pipeline_of(width, form), random_table(source, width, 15, -2, 4))
            huge = repeated_form(width, pipeline, 10 ** 29 + times)
            self.assertEqual(learn(Box(width, pipeline_of(width, huge))), huge)

    def test_a_parting_table_parts_boxes_and_live_objects(self):
        parted = 0
        for source, width, pipeline in self.cases(405, 400):
            other = random_pipeline(source, width, source.choice([0, 2, 16]))
            table = parting_table(width, pipeline, other)
            if table is not None:
                parted += 1
                self.assertNotEqual(Box(width, pipeline).answer(table), Box(width, other).answer(table))
                self.assertNotEqual(Live(width, pipeline, table), Live(width, other, table))
                self.assertNotEqual(learn(Box(width, pipeline)), learn(Box(width, other)))
        self.assertGreater(parted, 300)

    def test_a_missing_row_stands_in_no_result(self):
        for source, width, pipeline in self.cases(406, 150):
            # Unlike rows, so that a row of the result has one position only.
            table = list(dict.fromkeys(random_table(source, width, 20, -9, 9)))
            result = Live(width, pipeline, table).result()
            for position, row in enumerate(table):
                reason = why_missing(width, pipeline, table, position)
                self.assertIs(reason is None, row in result)
                if reason is not None:
                    index, winner = reason
                    column = pipeline[index][1]
                    self.assertEqual((pipeline[index][0], table[winner][column]), ("unique", row[column]))

    def test_results_and_tables_of_live_objects_are_passed_on(self):
        for source, width, pipeline in self.cases(407, 150):
            live = Live(width, pipeline, random_table(source, width, 40, -2, 4))
            for _ in range(20):
                live.insert(source.randint(0, 40), random_table(source, width, 1, -2, 4)[0])
            self.assertEqual(len(live.table()), 60)
            self.assertEqual(live.result(), run(width, pipeline, live.table()))
            self.assertEqual(Live(width, pipeline, live.table()), live)
            again = Live(width, pipeline, live.result())
            self.assertEqual(again.result(), run(width, pipeline, live.result()))


class LongPipelines(unittest.TestCase):
    """A pipeline that is read may have hundreds of commands, and is passed to all the others."""

    def check(self, width, pipeline, source):
        self.assertEqual(read_pipeline(show_pipeline(pipeline)), pipeline)
        form = form_of(width, pipeline)
        built = pipeline_of(width, form)
        table = random_table(source, width, 40, -2, 5)
        self.assertEqual(learn(Box(width, pipeline)), form)
        self.assertEqual(run(width, pipeline, table), run(width, built, table))
        self.assertIsNone(parting_table(width, pipeline, built))
        self.assertIs(equivalent(width, built, pipeline), True)
        self.assertEqual(repeated_form(width, pipeline, 4), form_of(width, pipeline * 4))
        live = Live(width, pipeline, table)
        self.assertEqual(live, Live(width, built, table))
        for index in range(20):
            row = random_table(source, width, 1, -2, 5)[0]
            live.insert(2 * index, row)
            table.insert(2 * index, row)
        self.assertEqual(live.result(), run(width, built, table))
        left = positions(width, pipeline, table)
        for position in range(0, len(table), 7):
            self.assertIs(why_missing(width, pipeline, table, position) is None, position in left)

    def test_of_a_text_of_four_thousand_characters(self):
        source = numbers(408)
        for number in range(12):
            width = 1 + number % 6
            pipeline = random_pipeline(source, width, 444)
            while len(show_pipeline(pipeline)) > 4000:
                pipeline.pop()
            self.assertGreater(len(pipeline), 200)
            self.check(width, read_pipeline(show_pipeline(pipeline)), source)

    def test_of_sorts_and_reversals_only_and_unique_commands_at_the_end(self):
        source = numbers(409)
        pipeline = []
        while len(pipeline) < 390:
            pipeline += sorts_of_all(source, 6)
        self.check(6, pipeline, source)
        self.check(6, pipeline + [("unique", column) for column in (3, 0, 5, 1, 4, 2)] + pipeline[:20], source)


class NoArgumentIsKept(unittest.TestCase):
    def test_forms_and_pipelines_may_be_changed_after_each_call(self):
        pipeline = [("sort", 1), ("unique", 0), ("reverse",), ("unique", 1)]
        table = [(BIG, 1), (-BIG, 1), (BIG, 2), (3, 2)]
        box, live = Box(2, pipeline), Live(2, pipeline, table)
        form = learn(box)
        built = pipeline_of(2, form)
        expected = copy.deepcopy((box.answer(table), live.table(), live.result(), form_of(2, built), built))
        same_box, same_live = Box(2, built), Live(2, built, table)
        form[0].clear()
        form[1].clear()
        pipeline.clear()
        read = read_pipeline(show_pipeline(built))
        read.clear()
        found = (same_box.answer(table), same_live.table(), same_live.result(), form_of(2, built), built)
        self.assertEqual(found, expected)
        self.assertEqual(box.answer(table), expected[0])
        self.assertEqual(live, same_live)


if __name__ == "__main__":
    unittest.main()

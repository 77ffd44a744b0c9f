import copy
import unittest
import unittest.mock

from helpers import (
    BIG, COMMANDS_BY_WIDTH, Checks, full_pipeline, mixed_pipeline, numbers, pipeline_of_sixteen, random_pipeline,
    random_table, written_otherwise,
)
from tablepipe.errors import InvalidCommand, InvalidIndex, InvalidTable, InvalidWidth, TableError
from tablepipe.forms import equivalent, form_of
from tablepipe.learning import Box
from tablepipe.live import Live
from tablepipe.running import run


def changed(result, changes):
    """What a list of changes makes of a result, one after the other."""
    result = list(result)
    for change in changes:
        if change[0] == "insert":
            _, index, row = change
            assert 0 <= index <= len(result), change
            result.insert(index, row)
        else:
            name, index = change
            assert name == "remove" and 0 <= index < len(result), change
            del result[index]
    return result


def state(live):
    return live.table(), live.result()


class Watching(unittest.TestCase, Checks):
    """Changes an object, and checks all that the document says of the changes."""

    def check_start(self, width, pipeline, table):
        self.width, self.pipeline, self.rows = width, pipeline, list(table)
        self.rules = len(form_of(width, pipeline)[0])
        self.live = Live(width, pipeline, table)
        self.check_state()

    def check_state(self):
        self.assertEqual(self.live.table(), self.rows)
        self.assertEqual(self.live.result(), run(self.width, self.pipeline, self.rows), (self.pipeline, self.rows))

    def check_insert(self, index, row):
        before = self.live.result()
        changes = self.live.insert(index, row)
        self.rows.insert(index, row)
        return self.check_changes(before, changes, 1)

    def check_remove(self, index):
        before = self.live.result()
        changes = self.live.remove(index)
        del self.rows[index]
        return self.check_changes(before, changes, -1)

    def check_changes(self, before, changes, more):
        """Return how many rows enter and leave."""
        self.check_state()
        self.assertIs(type(changes), list)
        for change in changes:
            self.assertIs(type(change), tuple)
            self.assertEqual([type(part) for part in change], [str, int, tuple][:len(change)])
        after = self.live.result()
        self.assertEqual(changed(before, changes), after, (self.pipeline, self.rows, changes))
        enter = len([change for change in changes if change[0] == "insert"])
        leave = len(changes) - enter
        most = 2 ** (self.rules - 1) if self.rules else 1
        self.assertLessEqual(max(enter, leave), most, (self.pipeline, self.rows, changes))
        self.assertEqual(enter - leave, len(after) - len(before))
        if not self.rules:
            self.assertEqual((enter, leave), (1, 0) if more == 1 else (0, 1))
        return enter, leave

    def check_many(self, source, many, low=-2, high=2):
        """Insertions and removals at any places, at both ends particularly often."""
        for _ in range(many):
            length = len(self.rows)
            index = source.choice([0, length, source.randint(0, length)])
            if source.random() < 0.5 and index < length:
                self.check_remove(index)
            else:
                row = source.choice(self.rows + random_table(source, self.width, 1 + length, low, high))
                self.check_insert(index, row)


class Examples(unittest.TestCase):
    def test_the_example(self):
        live = Live(2, [("unique", 0)], [(1, 5), (2, 6)])
        changes = live.insert(0, (2, 7))
        self.assertEqual([live.result(), live.table()], [[(2, 7), (1, 5)], [(2, 7), (1, 5), (2, 6)]])
        self.assertEqual(changed([(1, 5), (2, 6)], changes), [(2, 7), (1, 5)])
        self.assertEqual(len(changes), 2)

    def test_the_class_is_defined_in_this_file_with_its_methods(self):
        self.assertEqual(Live.__module__, "tablepipe.live")
        for name in ("__init__", "__eq__", "table", "result", "insert", "remove"):
            self.assertIn(name, vars(Live))


class SingleChanges(Watching):
    def test_from_the_empty_table_and_back(self):
        for pipeline in ([], [("unique", 0)], [("reverse",), ("sort", 0), ("unique", 0), ("sort_down", 0)]):
            self.check_start(1, pipeline, [])
            self.assertEqual(self.check_insert(0, (BIG,)), (1, 0))
            self.assertEqual(self.check_remove(0), (0, 1))
            self.assertEqual(state(self.live), ([], []))

    def test_without_unique_commands_one_row_enters_or_leaves(self):
        for pipeline in ([], [("reverse",)], [("sort", 1)], [("sort_down", 0), ("reverse",), ("sort", 1)]):
            self.check_start(2, pipeline, [(1, 2), (1, 2), (BIG, -BIG), (-BIG, BIG)])
            for index in (0, 5, 3):
                self.assertEqual(self.check_insert(index, (1, 2)), (1, 0))
            for index in (0, 5, 2, 3, 2, 1, 0):
                self.assertEqual(self.check_remove(index), (0, 1))

    def test_a_row_that_stands_behind_an_equal_value_changes_nothing(self):
        self.check_start(2, [("unique", 0)], [(1, 5), (2, 6)])
        self.assertEqual(self.check_insert(2, (1, 9)), (0, 0))
        self.assertEqual(self.check_insert(1, (1, 9)), (0, 0))
        self.assertEqual(self.check_remove(3), (0, 0))
        self.assertEqual(self.check_remove(1), (0, 0))

    def test_a_row_in_the_place_of_another_one(self):
        self.check_start(2, [("sort", 1), ("unique", 0)], [(1, 5), (2, 6)])
        self.assertEqual(self.check_insert(2, (2, 3)), (1, 1))
        self.assertEqual(self.check_remove(2), (1, 1))
        self.assertEqual(self.check_insert(1, (3, 3)), (1, 0))
        self.assertEqual(self.check_remove(1), (0, 1))

    def test_a_row_that_makes_room_for_another_one(self):
        # The new row removes the first one, which let the last one not stay.
        self.check_start(2, [("unique", 0), ("unique", 1)], [(1, 5), (2, 5)])
        self.assertEqual(self.check_insert(0, (1, 7)), (2, 1))
        self.assertEqual(self.live.result(), [(1, 7), (2, 5)])
        self.assertEqual(self.check_remove(0), (1, 2))

    def test_as_many_rows_as_the_document_allows(self):
        self.check_start(2, [("unique", 0), ("unique", 1)], [(1, 5), (2, 5), (3, 7)])
        self.assertEqual(self.check_insert(0, (1, 7)), (2, 2))
        self.assertEqual(self.check_remove(0), (2, 2))

    def test_equal_rows(self):
        for pipeline in ([("reverse",)], [("unique", 1)], [("sort", 0), ("reverse",), ("unique", 0), ("unique", 1)]):
            self.check_start(2, pipeline, [(0, 0)] * 4)
            for index in (4, 0, 2):
                self.check_insert(index, (0, 0))
            for index in (6, 3, 0, 1, 2, 1, 0):
                self.check_remove(index)

    def test_values_at_both_limits(self):
        values = (-BIG, -BIG + 1, BIG - 1, BIG)
        for pipeline in ([("sort", 0)], [("sort_down", 1), ("unique", 0)], [("unique", 1), ("sort_down", 0)]):
            self.check_start(2, pipeline, [])
            for one in values:
                for other in values:
                    self.check_insert(len(self.rows) // 2, (one, other))
            while self.rows:
                self.check_remove(len(self.rows) // 3)


class ManyChanges(Watching):
    def check_pipeline(self, source, width, pipeline, high, many=30):
        table = random_table(source, width, source.choice([0, 1, 4, 12, 40]), -2, high)
        self.check_start(width, pipeline, table)
        self.check_many(source, many, -2, high)

    def test_random_pipelines(self):
        source = numbers(201)
        for number in range(200):
            width = 1 + number % 6
            pipeline = random_pipeline(source, width, source.choice([0, 1, 2, 4, 8]))
            self.check_pipeline(source, width, pipeline, source.choice([-2, -1, 1, 4]))

    def test_pipelines_of_sixteen_commands(self):
        source = numbers(202)
        for number in range(120):
            width = 1 + number % 6
            self.check_pipeline(source, width, pipeline_of_sixteen(source, width), source.choice([0, 2, 5, 20]))

    def test_unique_commands_of_all_columns_between_sorts_by_all_columns(self):
        source = numbers(203)
        for number in range(120):
            width = 6 - number % 4
            self.check_pipeline(source, width, full_pipeline(source, width), source.choice([1, 3, 8, 20]))

    def test_several_unique_commands(self):
        source = numbers(204)
        most = {}
        for number in range(300):
            width = 2 + number % 5
            self.check_pipeline(source, width, mixed_pipeline(source, width), source.choice([1, 4, 10]), 20)
            rows = random_table(source, width, 20, -2, 10)
            for row in rows:
                index = source.randint(0, len(self.rows))
                most[self.rules] = max(most.get(self.rules, 0), *self.check_insert(index, row))
        # The bound is reached where there are few rules, and many rows change together where there are more.
        self.assertEqual((most[1], most[2]), (1, 2))
        self.assertGreater(most[3], 2)

    def test_a_hundred_calls(self):
        source = numbers(205)
        for width in range(1, 7):
            self.check_pipeline(source, width, full_pipeline(source, width), 9, 100)

    def test_all_short_pipelines_of_two_columns(self):
        source = numbers(206)
        for first in COMMANDS_BY_WIDTH[2]:
            for second in COMMANDS_BY_WIDTH[2]:
                for third in COMMANDS_BY_WIDTH[2]:
                    self.check_start(2, [first, second, third], random_table(source, 2, 5, 0, 2))
                    self.check_many(source, 6, 0, 2)

    def test_objects_do_not_influence_each_other(self):
        table = [(1, 5), (2, 6), (1, 4)]
        pipeline = [("sort", 1), ("unique", 0)]
        first, second = Live(2, pipeline, table), Live(2, pipeline, table)
        expected = state(second)
        first.insert(0, (7, 7))
        first.remove(2)
        self.assertEqual(state(second), expected)
        second.remove(0)
        self.assertEqual(first.table(), [(7, 7), (1, 5), (1, 4)])

    def test_beyond_the_limits_there_is_no_error(self):
        source = numbers(207)
        self.check_start(7, random_pipeline(source, 7, 60), random_table(source, 7, 90, -2, 40))
        self.check_many(source, 60, -2, 40)


class Errors(Watching):
    PIPELINE = [("sort", 1), ("unique", 0)]
    TABLE = [(1, 5), (2, 6), (1, 4)]

    def check_refused(self, kind, value, call, *arguments):
        live = Live(2, self.PIPELINE, self.TABLE)
        before = state(live)
        self.assert_error(kind, value, getattr(live, call), *arguments)
        self.assertEqual(state(live), before)
        self.assertEqual(live, Live(2, self.PIPELINE, self.TABLE))
        # Afterwards it still changes as it would have done.
        live.insert(3, (2, 1))
        self.assertEqual(live.result(), run(2, self.PIPELINE, self.TABLE + [(2, 1)]))

    def test_the_width(self):
        self.assert_width_checked(Live, [], [])

    def test_the_pipeline(self):
        self.assert_pipeline_checked(lambda pipeline: Live(2, pipeline, [(1, 2)]))

    def test_the_table(self):
        self.assert_table_checked(lambda table: Live(2, [("unique", 1)], table))

    def test_the_order_of_the_checks(self):
        self.assert_error(InvalidWidth, 0, Live, 0, [("drop",)], [(1,)])
        self.assert_error(InvalidCommand, 1, Live, 1, [("sort", 0), ("sort", 1)], [(1, 2)])

    def test_the_index_of_an_insertion(self):
        for index in (-1, -3, -4, 4, 5, BIG, -BIG):
            self.check_refused(InvalidIndex, index, "insert", index, (1, 2))

    def test_the_row_of_an_insertion(self):
        for row in ((), (1,), (1, 2, 3)):
            for index in range(4):
                self.check_refused(InvalidTable, index, "insert", index, row)

    def test_the_index_comes_before_the_row(self):
        for index in (-1, 4):
            self.check_refused(InvalidIndex, index, "insert", index, (1,))

    def test_the_index_of_a_removal(self):
        for index in (-1, -3, -4, 3, 4, BIG, -BIG):
            self.check_refused(InvalidIndex, index, "remove", index)

    def test_the_empty_table(self):
        live = Live(1, [("unique", 0)], [])
        for index in (-1, 0, 1):
            self.assert_error(InvalidIndex, index, live.remove, index)
        for index in (-1, 1):
            self.assert_error(InvalidIndex, index, live.insert, index, (5,))
        self.assert_error(InvalidTable, 0, live.insert, 0, ())
        self.assertEqual(state(live), ([], []))

    def test_each_is_a_table_error_and_a_value_error(self):
        live = Live(1, [], [(1,)])
        for kind in (TableError, ValueError):
            self.assertRaises(kind, Live, 0, [], [])
            self.assertRaises(kind, Live, 1, [("drop",)], [])
            self.assertRaises(kind, Live, 1, [], [()])
            self.assertRaises(kind, live.insert, 2, (1,))
            self.assertRaises(kind, live.insert, 0, ())
            self.assertRaises(kind, live.remove, 1)


class Equality(unittest.TestCase):
    TABLE = [(1, 5), (2, 6), (1, 4)]

    def check(self, one, other, same):
        for left, right in ((one, other), (other, one)):
            self.assertIs(left == right, same)
            self.assertIs(left != right, not same)

    def test_the_same_pipeline_and_table(self):
        for pipeline in ([], [("unique", 0)], [("sort", 1), ("unique", 0), ("reverse",)]):
            live = Live(2, pipeline, self.TABLE)
            self.check(live, live, True)
            self.check(live, Live(2, list(pipeline), list(self.TABLE)), True)

    def test_equivalent_pipelines(self):
        self.check(Live(2, [("reverse",), ("reverse",)], self.TABLE), Live(2, [], self.TABLE), True)
        one = [("sort", 1), ("sort", 0), ("unique", 1), ("sort", 1)]
        two = [("sort", 0), ("unique", 1), ("sort", 1)]
        self.check(Live(2, one, self.TABLE), Live(2, two, self.TABLE), True)

    def test_pipelines_that_are_not_equivalent_though_the_results_are_equal(self):
        for table in ([], [(1, 2)], [(1, 2), (1, 2)]):
            self.check(Live(2, [("sort", 0)], table), Live(2, [("sort", 1)], table), False)
            self.check(Live(2, [], table), Live(2, [("reverse",)], table), False)
        # With one column the rows are always equal, but not their positions.
        self.check(Live(1, [("unique", 0), ("sort", 0)], [(1,)]),
                   Live(1, [("reverse",), ("unique", 0), ("sort", 0)], [(1,)]), False)

    def test_many_pipelines(self):
        source = numbers(208)
        found = {True: 0, False: 0}
        for number in range(600):
            width = 1 + number % 6
            first = random_pipeline(source, width, source.choice([0, 1, 3, 8]))
            second = written_otherwise(source, first) if number % 2 else random_pipeline(source, width, 2)
            table = random_table(source, width, number % 4)
            same = equivalent(width, first, second)
            self.check(Live(width, first, table), Live(width, second, table), same)
            found[same] += 1
        self.assertGreater(min(found.values()), 100)

    def test_other_tables(self):
        live = Live(2, [("unique", 0)], self.TABLE)
        for table in ([], self.TABLE[:2], self.TABLE + [(1, 5)], self.TABLE[::-1], [(1, 5), (2, 6), (1, 3)],
                      [(1, 5), (2, 6)], [(2, 6), (1, 5), (1, 4)]):
            self.check(live, Live(2, [("unique", 0)], table), False)

    def test_other_widths(self):
        self.check(Live(1, [], []), Live(2, [], []), False)
        self.check(Live(2, [("unique", 0)], []), Live(3, [("unique", 0)], []), False)

    def test_objects_that_become_equal_and_unequal(self):
        live, other = Live(2, [("unique", 0)], self.TABLE), Live(2, [("unique", 0)], self.TABLE[:2])
        self.check(live, other, False)
        other.insert(2, (1, 4))
        self.check(live, other, True)
        live.remove(0)
        self.check(live, other, False)
        other.remove(0)
        self.check(live, other, True)

    def test_with_anything_else(self):
        live = Live(2, [("unique", 0)], self.TABLE)
        others = [None, 0, "", "Live", [], (), {}, self.TABLE, live.table(), live.result(), state(live), Live, object(),
                  Box(2, [("unique", 0)]), (2, [("unique", 0)], self.TABLE), b"", True, False, unittest.mock.ANY]
        for other in others[:-1]:
            self.check(live, other, False)
        self.assertIs(live == others[-1], False)


class Arguments(unittest.TestCase, Checks):
    PIPELINE = [("sort_down", 1), ("unique", 0), ("reverse",)]
    TABLE = [(1, 2), (1, 4), (2, 2), (1, 2)]

    def test_by_position_and_by_name(self):
        expected = Live(2, self.PIPELINE, self.TABLE)
        self.assertEqual(Live(width=2, pipeline=self.PIPELINE, table=self.TABLE), expected)
        self.assertEqual(Live(table=self.TABLE, width=2, pipeline=self.PIPELINE), expected)
        self.assertEqual(Live(2, self.PIPELINE, table=self.TABLE).result(), expected.result())
        self.assert_error(InvalidTable, 0, Live, table=[()], pipeline=[], width=1)

    def test_arguments_stay_unchanged(self):
        pipeline, table = list(self.PIPELINE), list(self.TABLE)
        live = Live(2, pipeline, table)
        live.insert(1, (3, 3))
        live.remove(0)
        live.insert(4, (2, 9))
        self.assertEqual((pipeline, table), (self.PIPELINE, self.TABLE))

    def test_passed_lists_may_be_changed_afterwards(self):
        pipeline, table = list(self.PIPELINE), list(self.TABLE)
        live = Live(2, pipeline, table)
        expected = copy.deepcopy(state(live))
        pipeline[:] = [("drop", 7)]
        table[:] = [()]
        self.assertEqual(state(live), expected)
        live.insert(0, (1, 9))
        self.assertEqual(state(live), ([(1, 9)] + self.TABLE, run(2, self.PIPELINE, [(1, 9)] + self.TABLE)))
        self.assertEqual(live, Live(2, self.PIPELINE, [(1, 9)] + self.TABLE))

    def test_changed_results_change_nothing_else(self):
        live = Live(2, self.PIPELINE, self.TABLE)
        expected = copy.deepcopy(state(live))
        live.table().clear()
        live.result()[:] = ["other"]
        self.assertEqual(state(live), expected)
        for pipeline in ([], [("unique", 0)]):
            live = Live(2, pipeline, self.TABLE)
            for _ in range(2):
                live.table().append((5, 5))
                live.result().clear()
                changes = live.insert(0, (1, 1))
                changes.clear()
                changes = live.remove(0)
                changes.append("other")
            self.assertEqual(state(live), (self.TABLE, run(2, pipeline, self.TABLE)))

    def test_later_changes_do_not_change_an_earlier_result(self):
        live = Live(2, [], self.TABLE)
        table, result = live.table(), live.result()
        changes = live.insert(0, (7, 7))
        live.remove(3)
        self.assertEqual((table, result), (self.TABLE, self.TABLE))
        self.assertEqual(changes, [("insert", 0, (7, 7))])


if __name__ == "__main__":
    unittest.main()

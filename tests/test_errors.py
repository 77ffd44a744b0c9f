import unittest

from tablepipe import errors

KINDS = ("InvalidWidth", "InvalidCommand", "InvalidTable", "InvalidForm", "InvalidIndex", "InvalidNumber", "Unreadable")


class Errors(unittest.TestCase):
    def test_the_base_class(self):
        self.assertEqual(errors.TableError.__bases__, (ValueError,))

    def test_each_other_class_is_a_direct_subclass_of_table_error_only(self):
        for name in KINDS:
            with self.subTest(name):
                self.assertEqual(getattr(errors, name).__bases__, (errors.TableError,))

    def test_there_are_no_other_error_classes(self):
        found = [name for name, value in vars(errors).items() if isinstance(value, type)]
        self.assertEqual(sorted(found), sorted(KINDS + ("TableError",)))

    def test_each_class_is_defined_in_this_file_with_its_constructor(self):
        for name in KINDS:
            with self.subTest(name):
                kind = getattr(errors, name)
                self.assertEqual((kind.__name__, kind.__module__), (name, "tablepipe.errors"))
                self.assertIn("__init__", vars(kind))

    def test_the_argument_by_position_and_by_name(self):
        for name in KINDS:
            kind = getattr(errors, name)
            for value in (0, -7, 10 ** 30, "sort x"):
                with self.subTest(name, value=value):
                    self.assertEqual(kind(value).value, value)
                    self.assertEqual(kind(value=value).value, value)

    def test_exactly_one_argument(self):
        for name in KINDS:
            kind = getattr(errors, name)
            with self.subTest(name):
                self.assertRaises(TypeError, kind)
                self.assertRaises(TypeError, kind, 1, 2)
                self.assertRaises(TypeError, kind, index=1)

    def test_each_can_be_caught_as_table_error_and_as_value_error(self):
        for name in KINDS:
            for caught in (errors.TableError, ValueError):
                with self.subTest(name, caught=caught):
                    with self.assertRaises(caught):
                        raise getattr(errors, name)(3)


if __name__ == "__main__":
    unittest.main()

import itertools
import re
import unittest

from helpers import COMMANDS_BY_WIDTH, Checks, full_pipeline, numbers, pipeline_of_sixteen, random_pipeline
from tablepipe.errors import TableError, Unreadable
from tablepipe.readings import read_pipeline
from tablepipe.texts import show_pipeline

COMMAND = r"(?:reverse|(?:sort|sort_down|unique) (?:0|[1-9][0-9]{0,8}))"
READABLE = re.compile(rf"-|{COMMAND}(?: \| {COMMAND})*")
CHARACTERS = [chr(code) for code in range(32, 127)]


class Texts(unittest.TestCase, Checks):
    def check_inverse(self, pipeline, text):
        self.assertEqual(show_pipeline(pipeline), text)
        found = read_pipeline(text)
        self.assertEqual(found, pipeline)
        self.assertIs(type(found), list)
        for command in found:
            self.assertEqual([type(command)] + [type(part) for part in command], [tuple, str, int][:len(command) + 1])

    def check_unreadable(self, text):
        self.assert_error(Unreadable, text, read_pipeline, text)

    def check_text(self, text):
        """Return whether a text can be read."""
        if READABLE.fullmatch(text):
            self.assertEqual(show_pipeline(read_pipeline(text)), text)
            return True
        self.check_unreadable(text)
        return False


class Examples(Texts):
    def test_show_pipeline(self):
        found = show_pipeline([("sort_down", 2), ("unique", 0), ("reverse",)])
        self.assertEqual(found, "sort_down 2 | unique 0 | reverse")

    def test_read_pipeline(self):
        self.check_unreadable("unique")

    def test_the_functions_are_defined_in_their_files(self):
        found = (show_pipeline.__module__, read_pipeline.__module__)
        self.assertEqual(found, ("tablepipe.texts", "tablepipe.readings"))


class Inverses(Texts):
    def test_the_empty_pipeline(self):
        self.check_inverse([], "-")

    def test_one_command(self):
        self.check_inverse([("reverse",)], "reverse")
        self.check_inverse([("sort", 0)], "sort 0")
        self.check_inverse([("sort_down", 5)], "sort_down 5")
        self.check_inverse([("unique", 1)], "unique 1")

    def test_several_commands(self):
        self.check_inverse([("reverse",), ("reverse",)], "reverse | reverse")
        pipeline = [("unique", 3), ("reverse",), ("sort", 0), ("sort", 0), ("sort_down", 12)]
        self.check_inverse(pipeline, "unique 3 | reverse | sort 0 | sort 0 | sort_down 12")

    def test_columns_of_every_length(self):
        for column in (9, 10, 99, 100, 101, 1000, 90909, 123456, 10 ** 7, 10 ** 8, 10 ** 9 - 1):
            for name in ("sort", "sort_down", "unique"):
                self.check_inverse([(name, column)], f"{name} {column}")
                self.check_inverse([("reverse",), (name, column)], f"reverse | {name} {column}")

    def test_all_short_pipelines(self):
        for length in range(4):
            for pipeline in itertools.product(COMMANDS_BY_WIDTH[2], repeat=length):
                words = [" ".join(map(str, command)) for command in pipeline]
                self.check_inverse(list(pipeline), " | ".join(words) or "-")

    def test_many_pipelines(self):
        source = numbers(301)
        for number in range(900):
            width = 1 + number % 6
            pipeline = [random_pipeline(source, width, source.randint(0, 9)), pipeline_of_sixteen(source, width),
                        full_pipeline(source, width)][number % 3]
            self.assertEqual(read_pipeline(show_pipeline(pipeline)), pipeline)

    def test_pipelines_of_any_length(self):
        source = numbers(302)
        for length in (17, 100, 1000, 30000):
            pipeline = random_pipeline(source, 6, length)
            self.assertEqual(read_pipeline(show_pipeline(pipeline)), pipeline)
        self.assertEqual(show_pipeline([("reverse",)] * 100000), " | ".join(["reverse"] * 100000))

    def test_texts_of_nearly_four_thousand_characters(self):
        for command, text in ((("reverse",), "reverse"), (("sort", 0), "sort 0"), (("unique", 999999999),
                              "unique 999999999"), (("sort_down", 10), "sort_down 10")):
            many = 4003 // (len(text) + 3)
            long_text = " | ".join([text] * many)
            self.assertTrue(3980 <= len(long_text) <= 4000)
            self.check_inverse([command] * many, long_text)


class UnreadableTexts(Texts):
    def test_the_empty_text_and_spaces(self):
        for text in ("", " ", "  ", "   "):
            self.check_unreadable(text)

    def test_every_other_single_character(self):
        for character in CHARACTERS:
            self.assertIs(self.check_text(character), character == "-")

    def test_other_words(self):
        for text in ("reversed", "revers", "Reverse", "REVERSE", "sorted 0", "Sort 0", "sortdown 0", "sort-down 0",
                     "sort down 0", "sort_up 0", "Unique 0", "uniq 0", "drop", "drop 0", "position 0", "empty", "None",
                     "up 0", "_ 0", "0", "0 sort", "[]", "('sort', 0)", "--", "- -", "-0"):
            self.check_unreadable(text)

    def test_a_column_that_is_missing_or_too_much(self):
        for text in ("sort", "sort_down", "unique", "sort ", "sort_down ", "unique ", "reverse 0", "reverse 1",
                     "reverse -", "sort 0 1", "unique 0 0", "sort 0 up", "sort0", "unique1", "sort_down2", "reverse0"):
            self.check_unreadable(text)

    def test_columns_that_are_not_written_so(self):
        columns = ("00", "01", "007", "0000000000", "000000001", "-1", "-0", "+0", "+1", "1_0", "1,0", "1.0", "1e3",
                   "0x1", "a", "1a", "a1", "1234567890", "1000000000", "9999999999", "12345678901234567890",
                   "9" * 3990, "0" * 3990, "'0'", "(0)", "~0", "--1", "1-", "*", "_1", "1_")
        for name in ("sort", "sort_down", "unique"):
            for column in columns:
                if len(name) + 1 + len(column) <= 4000:
                    self.check_unreadable(f"{name} {column}")
                    self.check_unreadable(f"reverse | {name} {column}"[:4000])

    def test_other_separators(self):
        for separator in ("|", " |", "| ", "  | ", " |  ", "  |  ", " || ", " | | ", " ", "  ", ",", ", ", "; ", " > ",
                          " & ", " ! ", " / ", "-", " - ", " | - | ", " |- ", "\\n"):
            for first, second in itertools.product(("reverse", "sort 0", "unique 12"), repeat=2):
                self.check_unreadable(f"{first}{separator}{second}")

    def test_something_at_the_ends(self):
        for text in ("-", "reverse", "sort 0", "sort_down 2 | unique 0 | reverse", "reverse | sort 1"):
            for more in (" ", "  ", " | ", "|", " |", "| ", "-", " -", " | -", "- | ", ".", ";", "'", "\"", "()"):
                self.check_unreadable(text + more)
                self.check_unreadable(more + text)
                self.check_unreadable(more + text + more)

    def test_the_sign_of_the_empty_pipeline_beside_commands(self):
        for text in ("- | -", "- | reverse", "reverse | -", "sort 0 | - | sort 0", "sort -", "-sort 0", "- sort 0"):
            self.check_unreadable(text)

    def test_two_spaces_anywhere(self):
        text = "sort_down 2 | unique 0 | reverse | sort 10"
        for at, character in enumerate(text):
            if character == " ":
                self.check_unreadable(text[:at] + " " + text[at:])
                self.check_unreadable(text[:at] + text[at + 1:])

    def test_long_texts(self):
        for text in ("sort 0 | " * 444, "reverse | " * 399 + "revers", "reverse | " * 399 + "reverse ", "x" * 4000,
                     " " * 4000, " | " * 1333, "-" * 4000, "reverse | " * 300 + "-", "sort " + " " * 3990 + "0"):
            self.assertLessEqual(len(text), 4000)
            self.check_unreadable(text)


class ChangedTexts(Texts):
    """Texts of pipelines with one character changed, inserted, removed or moved."""

    def test_every_change_of_one_character(self):
        found = {True: 0, False: 0}
        for text in ("-", "reverse", "sort 0", "sort_down 10", "unique 123456789", "sort 1 | reverse",
                     "unique 0 | sort 2"):
            for at in range(len(text) + 1):
                found[self.check_text(text[:at] + text[at + 1:])] += 1
                for character in CHARACTERS:
                    found[self.check_text(text[:at] + character + text[at + 1:])] += 1
                    found[self.check_text(text[:at] + character + text[at:])] += 1
        self.assertGreater(found[True], 50)
        self.assertGreater(found[False], 5000)

    def test_random_changes_of_longer_texts(self):
        source = numbers(303)
        found = {True: 0, False: 0}
        for number in range(6000):
            width = 1 + number % 6
            text = show_pipeline(random_pipeline(source, width, source.choice([1, 2, 5, 16])))
            for _ in range(source.choice([1, 1, 2])):
                at = source.randint(0, len(text))
                rest = text[at + source.choice([0, 1]):]
                character = source.choice(["", "0", "1", "7", " ", "|", "-", "e", source.choice(CHARACTERS)])
                text = text[:at] + character + rest
            found[self.check_text(text)] += 1
        self.assertGreater(min(found.values()), 100)

    def test_exchanged_pieces(self):
        source = numbers(304)
        pieces = ["sort", "sort_down", "unique", "reverse", "0", "1", "42", " ", " | ", "|", "-", "sort 0", "unique 3"]
        found = {True: 0, False: 0}
        for _ in range(6000):
            found[self.check_text("".join(source.choices(pieces, k=source.randint(1, 5))))] += 1
        self.assertGreater(min(found.values()), 100)


class Arguments(Texts):
    PIPELINE = [("sort_down", 2), ("unique", 0), ("reverse",)]
    TEXT = "sort_down 2 | unique 0 | reverse"

    def test_by_position_and_by_name(self):
        self.assertEqual(show_pipeline(pipeline=self.PIPELINE), self.TEXT)
        self.assertEqual(read_pipeline(text=self.TEXT), self.PIPELINE)
        self.assert_error(Unreadable, "x", read_pipeline, text="x")

    def test_arguments_stay_unchanged(self):
        self.assert_unchanged(show_pipeline, list(self.PIPELINE))
        self.assert_unchanged(show_pipeline, [])

    def test_a_changed_pipeline_changes_no_later_one(self):
        for text in ("-", self.TEXT, "reverse"):
            expected = list(read_pipeline(text))
            read_pipeline(text).append("other")
            read_pipeline(text)[:1] = []
            self.assertEqual(read_pipeline(text), expected)
            self.assertIsNot(read_pipeline(text), read_pipeline(text))

    def test_the_error_is_a_table_error_and_a_value_error(self):
        for kind in (TableError, ValueError):
            self.assertRaises(kind, read_pipeline, "")

    def test_the_error_leaves_later_calls_alone(self):
        self.check_unreadable("sort 0 | sort")
        self.assertEqual(read_pipeline("sort 0"), [("sort", 0)])


if __name__ == "__main__":
    unittest.main()

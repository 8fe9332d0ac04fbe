"""Points 63 to 65: the words of lines, commands and the lines of cases."""

import copy
import unittest

from everyfire.commands import is_command, row_of, split_words

COMMANDS = [
    "land wood", "case k wood", "start k hill 3", "break k hill 3", "free k hill", "ask k hill", "states k", "show k",
    "print wood", "undo", "redo", "lands", "cases", "remove land wood", "remove case k",
]
NO_NAMES = ["", "A", "1a", "0", "a-b", "a_b", "a" * 13, "\u00e4", "Land", "-", "a\t"]
NO_NUMBERS = ["", "-1", "+1", "01", "00", "1000000", "0000001", "x", "1x", "1.0", "\u0661", "1_0", "-0", "\u00b2"]
NUMBERS = ["0", "1", "9", "10", "100000", "999999"]


class SplitWordsTest(unittest.TestCase):
    """Point 63."""

    def test_parts_between_spaces(self):
        told = {
            "": [], " ": [], "     ": [], "a": ["a"], "a b": ["a", "b"], "  a   b ": ["a", "b"], "a  ": ["a"],
            "land l": ["land", "l"], "?? !": ["??", "!"],
        }
        for line, words in told.items():
            with self.subTest(line=line):
                self.assertEqual(split_words(line), words)

    def test_only_spaces_part_words(self):
        for sign in ("\t", "\r", "\u00a0", "\x0b", ","):
            self.assertEqual(split_words(f"a{sign}b c{sign}"), [f"a{sign}b", f"c{sign}"])
            self.assertEqual(split_words(sign), [sign])

    def test_lists_are_new(self):
        self.assertIsNot(split_words("a b"), split_words("a b"))


class IsCommandTest(unittest.TestCase):
    """Point 64."""

    def holds(self, expected, words):
        with self.subTest(words=words):
            self.assertIs(is_command(words), expected)

    def test_all_commands(self):
        for line in COMMANDS:
            self.holds(True, line.split(" "))

    def test_too_few_and_too_many_words(self):
        for line in COMMANDS:
            words = line.split(" ")
            for many in range(1, len(words)):
                self.holds(False, words[:many])
            for further in ("a", "3", "end", "land", ""):
                self.holds(False, [*words, further])

    def test_names(self):
        for line in COMMANDS:
            words = line.split(" ")
            for at, word in enumerate(words):
                if word in ("wood", "k", "hill"):
                    for name in NO_NAMES:
                        self.holds(False, [*words[:at], name, *words[at + 1:]])
                    for name in ("a", "a" * 12, "z9", "land", "case", "end", "minute"):
                        self.holds(True, [*words[:at], name, *words[at + 1:]])

    def test_numbers(self):
        for word in ("start", "break"):
            for number in NUMBERS:
                self.holds(True, [word, "k", "hill", number])
            for number in NO_NUMBERS:
                self.holds(False, [word, "k", "hill", number])

    def test_other_words(self):
        for line in (
            "end", "wind 0 calm", "start hill 3", "break hill 3", "Land wood", "UNDO", "lands l", "land NAME", "x",
            "remove", "remove wood", "remove lands wood", "remove break k", "states k hill", "free k hill 3", "ask k",
            "start k 3 hill", "3", "undo undo", "print", "case k", "help",
        ):
            self.holds(False, line.split(" "))


class RowOfTest(unittest.TestCase):
    """Point 65."""

    def writes(self, expected, words):
        with self.subTest(words=words):
            self.assertEqual(row_of(words), expected)

    def test_rows(self):
        self.writes(("wind", 30, "calm"), ["wind", "30", "calm"])
        self.writes(("start", "hill", 0), ["start", "hill", "0"])
        self.writes(("break", "wood", 999999), ["break", "wood", "999999"])
        self.assertIsInstance(row_of(["wind", "0", "calm"]), tuple)

    def test_numbers_and_names(self):
        for number in NUMBERS:
            self.writes(("wind", int(number), "calm"), ["wind", number, "calm"])
            self.writes(("start", "a", int(number)), ["start", "a", number])
            self.writes(("break", "a", int(number)), ["break", "a", number])
        for number in NO_NUMBERS:
            self.writes(None, ["wind", number, "calm"])
            self.writes(None, ["start", "a", number])
            self.writes(None, ["break", "a", number])
        for name in NO_NAMES:
            self.writes(None, ["wind", "3", name])
            self.writes(None, ["start", name, "3"])
            self.writes(None, ["break", name, "3"])

    def test_what_writes_no_row(self):
        for line in (
            "wind", "wind 3", "wind calm", "wind calm 3", "wind 3 calm x", "start 3 hill", "start hill", "break 3",
            "start k hill 3", "break hill 3 4", "end", "Wind 3 calm", "stop hill 3", "land l", "x", "question",
        ):
            self.writes(None, line.split(" "))
        self.writes(None, [""])

    def test_nothing_is_modified(self):
        for ask in (is_command, row_of):
            words = ["start", "hill", "3"]
            before = copy.copy(words)
            ask(words)
            self.assertEqual(words, before)


if __name__ == "__main__":
    unittest.main()

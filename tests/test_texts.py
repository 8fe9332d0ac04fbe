"""Points 69 to 71: questions and papers as texts."""

import copy
import random
import unittest

from everyfire.errors import InvalidNotation, InvalidPaper, InvalidWeather, UnknownName
from everyfire.lands import Land
from everyfire.papers import Paper, check_paper, paper
from everyfire.texts import check_text, paper_text, parse_paper, parse_question, question_text
from tests.scenes import raised, random_question

QUESTION = "question\nwind 0 west\nwind 30 calm\nstart hill 3\nstart wood 0\nbreak wood 20\nbreak hill 999999"
ROWS = ([(0, "west"), (30, "calm")], [("hill", 3), ("wood", 0)], [("wood", 20), ("hill", 999999)])
PAPER = "maybe\nlabel hill 0\nlabel wood 999999\ncatch hill - 3\ncatch wood l 12"
NO_NAMES = ["", "A", "1a", "0", "a-b", "a" * 13, "\u00e4", "a\t", "\r", "*"]
NO_NUMBERS = ["", "-1", "+1", "01", "00", "1000000", "0000000", "x", "1x", "1.0", "\u0661", "-"]
LAND = Land(winds=["west"], places=["hill", "wood"], links=[("l", "hill", "wood", [(5, 9)])])


def wrong_line(parse, text):
    """Return the class of the error that parsing raises, and its line; or None."""
    try:
        parse(text)
    except (InvalidNotation, InvalidPaper) as error:
        return type(error), error.line
    return None


def fields(told):
    return told.word, told.labels, told.chain


class QuestionTest(unittest.TestCase):
    """Points 69 and 70: questions."""

    def wrong(self, line, text):
        with self.subTest(text=text):
            self.assertEqual(wrong_line(parse_question, text), (InvalidNotation, line))

    def test_written_and_read_back(self):
        self.assertEqual(question_text(*ROWS), QUESTION)
        self.assertEqual(parse_question(QUESTION), ROWS)
        self.assertIsInstance(parse_question(QUESTION), tuple)
        for rows in parse_question(QUESTION):
            self.assertIsInstance(rows, list)
            self.assertTrue(all(isinstance(row, tuple) for row in rows))

    def test_no_lines_of_a_sort(self):
        told = [
            (([], [], []), "question"), ((ROWS[0], [], []), "question\nwind 0 west\nwind 30 calm"),
            (([], [("a", 0)], []), "question\nstart a 0"), (([], [], [("a", 0)]), "question\nbreak a 0"),
            (([(7, "a")], [], [("a", 0)]), "question\nwind 7 a\nbreak a 0"),
        ]
        for rows, text in told:
            with self.subTest(text=text):
                self.assertEqual(question_text(*rows), text)
                self.assertEqual(parse_question(text), rows)

    def test_rows_that_keep_no_other_rule(self):
        rows = ([(999999, "a"), (0, "a"), (5, "b")], [("a", 999999)] * 50, [("a", 0), ("a", 0)])
        self.assertEqual(parse_question(question_text(*rows)), rows)
        many = ([(at, "calm") for at in range(100)], [], [])
        self.assertEqual(parse_question(question_text(*many)), many)

    def test_any_questions_read_back_the_same(self):
        for seed in range(50):
            _, weather, starts, breaks = random_question(random.Random(seed))
            text = question_text(weather, starts, breaks)
            with self.subTest(seed=seed):
                self.assertEqual(parse_question(text), (weather, starts, breaks))
                self.assertEqual(question_text(*parse_question(text)), text)

    def test_the_first_line(self):
        for text in ("", "\nquestion", "Question", "question ", " question", "questions", "wind 0 west", "question\r"):
            self.wrong(1, text)
        self.wrong(1, "x\ny\nz")

    def test_integers(self):
        for number in ("0", "7", "10", "999999"):
            self.assertEqual(parse_question(f"question\nwind {number} a")[0], [(int(number), "a")])
            self.assertEqual(parse_question(f"question\nstart a {number}")[1], [("a", int(number))])
            self.assertEqual(parse_question(f"question\nbreak a {number}")[2], [("a", int(number))])
        for number in NO_NUMBERS:
            for line in (f"wind {number} a", f"start a {number}", f"break a {number}"):
                self.wrong(3, f"question\nwind 0 a\n{line}")

    def test_names(self):
        for name in NO_NAMES + ["-"]:
            for line in (f"wind 0 {name}", f"start {name} 3", f"break {name} 3"):
                self.wrong(2, f"question\n{line}")

    def test_blanks_and_empty_lines(self):
        lines = QUESTION.split("\n")
        for at, line in enumerate(lines):
            for text in (line + " ", " " + line, line.replace(" ", "  ", 1) + ("" if " " in line else " "), line + "\r"):
                self.wrong(at + 1, "\n".join([*lines[:at], text, *lines[at + 1:]]))
            self.wrong(at + 1, "\n".join([*lines[:at], "", *lines[at:]]))
        self.wrong(len(lines) + 1, QUESTION + "\n")
        self.wrong(2, "question\n")
        self.wrong(2, "question\n\n\n")
        self.wrong(1, "question wind 0 west")

    def test_lines_in_another_order(self):
        self.wrong(3, "question\nstart a 0\nwind 0 west")
        self.wrong(3, "question\nbreak a 0\nwind 0 west")
        self.wrong(3, "question\nbreak a 0\nstart a 0")
        self.wrong(5, "question\nwind 0 a\nstart a 0\nbreak a 0\nstart a 0\nx")
        self.wrong(4, "question\nwind 0 a\nbreak a 0\nwind 3 a\nbreak a 0")

    def test_other_lines(self):
        for line in (
            "question", "wind", "wind 0", "wind west 0", "wind 0 west x", "start", "start a", "start 0 a", "start a 0 0",
            "break a", "label a 0", "catch a - 0", "x", "end", "Wind 0 west", "wind\t0\twest",
        ):
            self.wrong(2, f"question\n{line}")
            self.wrong(3, f"question\nwind 0 west\n{line}\nstart a 0\nx")


class PaperTest(unittest.TestCase):
    """Points 69 and 70: papers."""

    def wrong(self, line, text):
        with self.subTest(text=text):
            self.assertEqual(wrong_line(parse_paper, text), (InvalidPaper, line))

    def test_written_and_read_back(self):
        told = Paper("maybe", [("hill", 0), ("wood", 999999)], [("hill", None, 3), ("wood", "l", 12)])
        self.assertEqual(paper_text(told), PAPER)
        self.assertEqual(fields(parse_paper(PAPER)), fields(told))
        self.assertIsInstance(parse_paper(PAPER), Paper)

    def test_no_lines_of_a_sort(self):
        chain = [("a", None, 0), ("b", "l", 1)]
        for word in ("never", "maybe", "surely"):
            for labels in ([], [("a", 5)]):
                for rows in ([], chain):
                    text = paper_text(Paper(word, labels, rows))
                    with self.subTest(text=text):
                        self.assertEqual(fields(parse_paper(text)), (word, labels, rows))
        self.assertEqual(paper_text(Paper("never", [], [])), "never")
        self.assertEqual(paper_text(Paper("surely", [], chain)), "surely\ncatch a - 0\ncatch b l 1")

    def test_rows_that_keep_no_other_rule(self):
        told = Paper("never", [("a", 3), ("a", 3)], [("a", "l", 7), ("b", None, 5), ("b", None, 0)])
        self.assertEqual(fields(parse_paper(paper_text(told))), fields(told))

    def test_the_papers_of_any_questions_read_back_the_same(self):
        words = []
        for seed in range(150):
            told = random_question(random.Random(seed))
            for place in told[0].places:
                made = paper(*told, place)
                words.append(made.word)
                text = paper_text(made)
                with self.subTest(seed=seed, place=place):
                    self.assertEqual(fields(parse_paper(text)), fields(made))
                    self.assertEqual(paper_text(parse_paper(text)), text)
                    self.assertTrue(check_text(*told, place, text))
        self.assertTrue(all(words.count(word) > 20 for word in ("never", "maybe", "surely")))

    def test_the_first_line(self):
        for text in ("", "\nnever", "Never", "never ", " maybe", "question", "sure", "label a 0", "never surely", "-"):
            self.wrong(1, text)
        self.wrong(1, "x\nlabel a 0\ny")

    def test_a_dash_as_a_link(self):
        self.assertEqual(parse_paper("surely\ncatch a - 0").chain, [("a", None, 0)])
        self.assertEqual(parse_paper("surely\ncatch a l 0\ncatch b - 2").chain, [("a", "l", 0), ("b", None, 2)])
        for line in ("catch - l 0", "catch - - 0", "catch a - -", "- a - 0", "label - 0", "label a -", "catch a -- 0", "-"):
            self.wrong(2, f"surely\n{line}")

    def test_integers(self):
        for number in ("0", "7", "10", "999999"):
            self.assertEqual(parse_paper(f"never\nlabel a {number}").labels, [("a", int(number))])
            self.assertEqual(parse_paper(f"never\ncatch a - {number}").chain, [("a", None, int(number))])
        for number in NO_NUMBERS:
            for line in (f"label a {number}", f"catch a - {number}", f"catch a l {number}"):
                self.wrong(3, f"maybe\nlabel a 0\n{line}")

    def test_names(self):
        for name in NO_NAMES:
            for line in (f"label {name} 0", f"catch {name} - 0", f"catch a {name} 0"):
                self.wrong(2, f"maybe\n{line}")

    def test_blanks_and_empty_lines(self):
        lines = PAPER.split("\n")
        for at, line in enumerate(lines):
            for text in (line + " ", " " + line, line.replace(" ", "  ", 1) + ("" if " " in line else " "), line + "\r"):
                self.wrong(at + 1, "\n".join([*lines[:at], text, *lines[at + 1:]]))
            self.wrong(at + 1, "\n".join([*lines[:at], "", *lines[at:]]))
        self.wrong(len(lines) + 1, PAPER + "\n")
        self.wrong(2, "never\n")

    def test_lines_in_another_order(self):
        self.wrong(3, "maybe\ncatch a - 0\nlabel a 0")
        self.wrong(4, "maybe\ncatch a - 0\ncatch b l 1\nlabel a 0\nx")
        self.wrong(4, "maybe\nlabel a 0\ncatch a - 0\nlabel a 0\ncatch a - 0")

    def test_other_lines(self):
        for line in (
            "never", "label", "label a", "label 0 a", "label a 0 0", "catch a 0", "catch a - 0 0", "catch a 0 -", "x",
            "wind 0 west", "start a 0", "Label a 0", "catch", "end",
        ):
            self.wrong(2, f"maybe\n{line}")
            self.wrong(3, f"maybe\nlabel a 0\n{line}\ncatch a - 0\nx")


class CheckTextTest(unittest.TestCase):
    """Point 71."""

    TOLD = (LAND, [(0, "west")], [("hill", 3)], [])

    def test_as_check_paper(self):
        for text, place, expected in (
            ("surely\ncatch hill - 3\ncatch wood l 12", "wood", True), ("surely\ncatch hill - 3", "hill", True),
            ("surely\ncatch hill - 3\ncatch wood l 8", "wood", False), ("never\nlabel hill 3", "wood", False),
            ("surely\ncatch hill - 3\ncatch wood l 12", "hill", False), ("never", "wood", False),
            ("surely\nlabel hill 3\ncatch hill - 3\ncatch wood l 12", "wood", False), ("maybe", "wood", False),
        ):
            with self.subTest(text=text, place=place):
                self.assertIs(check_text(*self.TOLD, place, text), expected)
                self.assertIs(check_paper(*self.TOLD, place, parse_paper(text)), expected)
        told = (LAND, [(0, "west")], [("hill", 3)], [("wood", 10)])
        self.assertTrue(check_text(*told, "wood", "maybe\nlabel hill 3\ncatch hill - 3\ncatch wood l 8"))
        told = (LAND, [(0, "west")], [("hill", 3)], [("wood", 8)])
        self.assertTrue(check_text(*told, "wood", "never\nlabel hill 3"))

    def test_strange_places_and_links_in_a_paper_are_not_right(self):
        for text in ("never\nlabel moor 3", "surely\ncatch hill - 3\ncatch wood k 12", "surely\ncatch moor - 3"):
            self.assertIs(check_text(*self.TOLD, "wood", text), False)

    def test_the_errors_of_the_form_come_first(self):
        for told in (
            (LAND, [(0, "storm")], [("x1", 0)], [("x2", 0)]), (LAND, [], [("x1", 0)], [("x2", 0)]),
            (LAND, [(0, "west")], [], [("x2", 0)]), (LAND, [], [], []),
        ):
            for text in ("label hill 3", "", "never\n", "maybe\ncatch moor - 0\nlabel moor 0"):
                self.assertEqual(raised(check_text, *told, "moor", text), InvalidPaper)

    def test_then_the_errors_of_check_paper(self):
        text = "never\nlabel moor 3"
        told = [
            ((LAND, [(0, "storm")], [("x1", 0)], [("x2", 0)], "x3", text), (UnknownName, "storm")),
            ((LAND, [], [("x1", 0)], [("x2", 0)], "x3", text), (UnknownName, "x1")),
            ((LAND, [], [], [("x2", 0)], "x3", text), (UnknownName, "x2")),
            ((LAND, [], [], [], "x3", text), (UnknownName, "x3")), ((LAND, [], [], [], "wood", text), InvalidWeather),
        ]
        for arguments, error in told:
            self.assertEqual(raised(check_text, *arguments), error)


class ArgumentsTest(unittest.TestCase):
    """Point 1."""

    def test_nothing_is_modified(self):
        rows = copy.deepcopy(ROWS)
        question_text(*rows)
        self.assertEqual(rows, ROWS)
        told = parse_paper(PAPER)
        before = copy.deepcopy(fields(told))
        paper_text(told)
        self.assertEqual(fields(told), before)

    def test_lists_are_new(self):
        for rows in parse_question(QUESTION):
            rows.clear()
        self.assertEqual(parse_question(QUESTION), ROWS)
        parse_paper(PAPER).labels.clear()
        self.assertEqual(len(parse_paper(PAPER).labels), 2)


if __name__ == "__main__":
    unittest.main()

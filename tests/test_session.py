"""Points 63 to 67: sessions."""

import random
import time
import unittest

from everyfire.book import Book
from everyfire.lands import Land
from everyfire.notation import format_land
from everyfire.session import Session
from tests.scenes import large_paths, large_question

LAND = """land l
winds calm west
places a b c
link ab a b 3-9 -
link bc b c 2-2 1-4
path a b 5
end"""
CASE = """case k l
wind 0 calm
start a 0
break b 5
end"""


def opened(*texts):
    """Return a session in which these texts are done without an error."""
    session = Session()
    for text in (LAND, CASE, *texts):
        lines = session.run(text)
        assert all(not line.startswith("line") for line in lines), lines
    return session


def shown(session):
    """Return all that the book of a session has, as lines."""
    names = session.book.land_names() + session.book.case_names()
    return names, session.run("lands\ncases"), [session.book.case(name) for name in session.book.case_names()]


class AnswersTest(unittest.TestCase):
    """Each test of a part asks for answers."""

    def answers(self, session, text, *lines):
        with self.subTest(text=text):
            self.assertEqual(session.run(text), list(lines))


class LinesTest(AnswersTest):
    """Point 63."""

    def test_texts_without_words(self):
        for text in ("", " ", "\n", "\n\n  \n", "     "):
            self.answers(Session(), text)

    def test_a_new_session(self):
        session = Session()
        self.assertIsInstance(session.book, Book)
        self.answers(session, "lands\ncases", "lands:", "cases:")

    def test_lines_without_words_have_numbers(self):
        self.answers(Session(), "\n\nx\n  \ny", "line 3: invalid command", "line 5: invalid command")

    def test_numbers_begin_again_in_each_call(self):
        session = Session()
        self.answers(session, "lands\nx", "lands:", "line 2: invalid command")
        self.answers(session, "x\nundo", "line 1: invalid command", "line 2: nothing to undo")
        self.answers(session, "x", "line 1: invalid command")

    def test_several_spaces(self):
        session = opened()
        self.answers(session, "   ask   k  a   ", "a: surely")
        self.answers(session, "remove  case k", "ok")
        self.answers(session, "  land   m \n  winds   calm \n places    a\n   end  \nprint   m", "ok", "ok", "winds calm", "places a")

    def test_only_newlines_end_a_line(self):
        self.answers(Session(), "lands\r\ncases", "line 1: invalid command", "cases:")
        self.answers(Session(), "lands\tcases\x0bx", "line 1: invalid command")

    def test_a_newline_at_the_end(self):
        self.answers(Session(), "lands\n", "lands:")


class CommandsTest(AnswersTest):
    """Points 64 and 66."""

    def test_start_and_break_and_free(self):
        session = opened()
        self.answers(session, "states k", "a: surely", "b: maybe", "c: maybe")
        self.answers(session, "break k c 2\nstates k", "ok", "a: surely", "b: maybe", "c: never")
        self.answers(session, "start k b 1\nstates k", "ok", "a: surely", "b: surely", "c: never")
        self.answers(session, "free k b\nfree k c\nshow k", "ok", "ok", "wind 0 calm", "start a 0", "start b 1")
        self.answers(session, "free k c\nask k c", "ok", "c: surely")

    def test_ask_and_states(self):
        session = opened()
        self.answers(session, "ask k b\nask k a", "b: maybe", "a: surely")
        self.assertEqual((session.book.decided, session.book.kept), (1, 1))
        self.answers(session, "states k", "a: surely", "b: maybe", "c: maybe")
        self.assertEqual((session.book.decided, session.book.kept), (1, 2))

    def test_states_in_the_order_of_the_land(self):
        session = Session()
        session.run("land l\nwinds w\nplaces z a m\nend\ncase k l\nwind 0 w\nstart m 0\nend")
        self.answers(session, "states k", "z: never", "a: never", "m: surely")

    def test_show(self):
        session = opened("case j l\nbreak c 9\nstart b 7\nwind 0 west\nbreak a 2\nwind 5 calm\nstart a 999999\nwind 6 calm\nend")
        rows = ["wind 0 west", "wind 5 calm", "wind 6 calm", "start b 7", "start a 999999", "break c 9", "break a 2"]
        self.answers(session, "show j", *rows)
        self.answers(session, "show k", "wind 0 calm", "start a 0", "break b 5")

    def test_print(self):
        session = opened()
        self.answers(session, "print l", *LAND.split("\n")[1:-1])
        session.book.set_land("m", Land(winds=["w"], places=["a"]))
        self.answers(session, "print m", "winds w", "places a")

    def test_lands_and_cases(self):
        session = opened()
        session.run("land a9\nwinds w\nplaces a\nend\nland a10\nwinds w\nplaces a\nend")
        session.run(CASE.replace("case k", "case b"))
        self.answers(session, "lands\ncases", "lands: a10 a9 l", "cases: b k")

    def test_undo_and_redo(self):
        session = opened("break k c 1")
        self.answers(session, "ask k c\nundo\nask k c\nredo\nask k c", "c: never", "ok", "c: maybe", "ok", "c: never")
        self.answers(session, "undo\nundo\nundo\ncases\nlands", "ok", "ok", "ok", "cases:", "lands:")
        self.answers(session, "undo\nredo\nlands", "line 1: nothing to undo", "ok", "lands: l")
        self.answers(session, "redo\nredo\nredo\ncases", "ok", "ok", "line 3: nothing to redo", "cases: k")

    def test_remove(self):
        session = opened()
        self.answers(session, "remove land l\nremove case k\ncases", "line 1: name in use l", "ok", "cases:")
        self.answers(session, "remove land l\nlands", "ok", "lands:")
        self.answers(session, "remove land l\nremove case k", "line 1: unknown name l", "line 2: unknown name k")

    def test_words_alone_decide_what_is_no_command(self):
        session = opened()
        before = shown(session)
        for line in (
            "start k moor 01", "start k a -3", "break k a 1000000", "ask nobody", "ask A b", "undo now", "end", "wind 0 calm",
            "remove k", "lands l", "?", "print l m", "free k", "states", "LAND l", "land", "land l m", "case k",
        ):
            self.answers(session, line, "line 1: invalid command")
        self.assertEqual(shown(session), before)

    def test_the_book_may_be_used_beside_the_session(self):
        session = opened()
        session.book.add_break("k", "a", 0)
        self.answers(session, "ask k a", "a: never")


class BlocksTest(AnswersTest):
    """Point 65."""

    def test_a_land(self):
        session = Session()
        answers = session.run(LAND)
        self.assertEqual(answers, ["ok", "ok"])
        self.assertEqual(format_land(session.book.land("l")), "\n".join(LAND.split("\n")[1:-1]))

    def test_a_case(self):
        session = Session()
        session.run(LAND)
        self.answers(session, CASE, "ok", "ok")
        self.assertEqual(session.book.case("k"), ("l", ((0, "calm"),), (("a", 0),), (("b", 5),)))

    def test_a_case_replaces_one(self):
        session = opened()
        self.answers(session, "case k l\nwind 0 west\nend\nshow k", "ok", "ok", "wind 0 west")

    def test_each_sort_keeps_the_order_of_its_lines(self):
        session = opened()
        session.run("case k l\nbreak a 3\nstart b 2\nbreak a 1\nwind 0 west\nstart a 9\nbreak c 3\nwind 4 calm\nstart b 1\nend")
        starts = (("b", 2), ("a", 9), ("b", 1))
        self.assertEqual(session.book.case("k"), ("l", ((0, "west"), (4, "calm")), starts, (("a", 3), ("a", 1), ("c", 3))))

    def test_lines_without_words_are_not_taken(self):
        session = Session()
        self.answers(session, LAND.replace("\n", "\n\n  \n"), "ok", "ok")
        self.answers(session, CASE.replace("\n", "\n\n  \n"), "ok", "ok")
        self.answers(session, "case j l\n\nwind 0 calm\n  \nx\nend", "ok", "line 6: invalid notation 2")
        self.answers(session, "land m\n\n\nwinds w\n\nplace\nend", "ok", "line 7: invalid notation 2")

    def test_commands_in_a_block_are_lines_of_it(self):
        session = opened()
        self.answers(session, "case j l\nundo\nend\ncases", "ok", "line 3: invalid notation 1", "cases: k")
        self.answers(session, "land m\nland n\nend\nlands", "ok", "line 3: invalid notation 1", "lands: l")
        self.answers(session, "case j l\nwind 0 calm\nstart k a 3\nend", "ok", "line 4: invalid notation 2")

    def test_only_a_line_end_closes_a_block(self):
        session = opened()
        self.answers(session, "case j l\nwind 0 calm\nend now\nEnd\nend\ncases", "ok", "line 5: invalid notation 2", "cases: k")
        self.answers(session, "land m\nend m\n   end   ", "ok", "line 3: invalid notation 1")
        self.answers(session, "end", "line 1: invalid command")

    def test_empty_blocks(self):
        session = opened()
        self.answers(session, "land m\nend", "ok", "line 2: invalid notation 1")
        self.answers(session, "case k l\nend", "ok", "line 2: invalid weather")
        self.answers(session, "land m\nwinds w\nend", "ok", "line 3: invalid notation 2")
        self.assertEqual(session.book.case("k")[3], (("b", 5),))

    def test_a_block_stays_open_at_the_end_of_a_text(self):
        session = Session()
        self.answers(session, "land l\nwinds calm", "ok")
        self.answers(session, "")
        self.answers(session, "places a b\nlands")
        self.answers(session, "link ab a b 3-9\nend", "line 2: invalid notation 3")
        self.answers(session, "lands", "lands:")
        self.answers(session, "land l", "ok")
        self.answers(session, "winds calm\nplaces a b\nend\ncase k l\nwind 0 calm", "ok", "ok")
        self.answers(session, "\nend\nstates k", "ok", "a: never", "b: never")

    def test_nothing_is_looked_at_when_a_block_is_opened(self):
        session = opened()
        self.answers(session, "land l", "ok")
        self.answers(session, "winds w\nplaces a\nend", "line 3: name in use l")
        self.answers(session, "case j moor", "ok")
        session.book.set_land("moor", Land(winds=["w"], places=["a"]))
        self.answers(session, "wind 0 w\nend\ncases", "ok", "cases: j k")

    def test_a_land_is_parsed_and_then_its_name_is_looked_at(self):
        session = opened()
        self.answers(session, "land l\nwind w\nend", "ok", "line 3: invalid notation 1")
        self.answers(session, "land l\nwinds w\nplaces a a\nend", "ok", "line 4: invalid land")
        self.answers(session, "land l\nwinds w\nplaces a\nend", "ok", "line 4: name in use l")

    def test_the_land_of_a_case_is_looked_up_and_then_the_lines_are_read(self):
        session = opened()
        self.answers(session, "case j moor\nx\nwind 1 storm\nend", "ok", "line 4: unknown name moor")
        self.answers(session, "case j l\nwind 1 storm\nstart a 01\nx\nend", "ok", "line 5: invalid notation 2")
        self.answers(session, "case j l\nwind 1 storm\nend", "ok", "line 3: unknown name storm")
        self.answers(session, "case j l\nbreak x2 0\nstart x1 0\nwind 1 calm\nend", "ok", "line 5: unknown name x1")
        self.answers(session, "case j l\nwind 1 calm\nend", "ok", "line 3: invalid weather")
        many = "\n".join(["start a 1"] * 41)
        self.answers(session, f"case j l\nwind 0 calm\n{many}\nend", "ok", "line 44: invalid question")
        self.answers(session, "cases", "cases: k")

    def test_an_error_closes_the_block(self):
        session = opened()
        self.answers(session, "case j l\nx\nend\nend\nlands", "ok", "line 3: invalid notation 1", "line 4: invalid command", "lands: l")
        self.answers(session, "case j l\nwind 0 calm\nend\nshow j", "ok", "ok", "wind 0 calm")

    def test_lines_of_one_block_are_not_those_of_the_next_one(self):
        session = opened()
        session.run("case j l\nwind 0 calm\nstart a 0\nend\ncase i l\nwind 0 west\nend")
        self.answers(session, "show i", "wind 0 west")
        self.answers(session, "show j", "wind 0 calm", "start a 0")


class ErrorsTest(AnswersTest):
    """Point 67."""

    def test_each_error(self):
        session = opened()
        many = "\n".join(["break k b 5"] * 39)
        self.assertEqual(session.run(many), ["ok"] * 39)
        before = shown(session)
        for text, line in (
            ("start j a 0", "line 1: unknown name j"), ("start k moor 0", "line 1: unknown name moor"),
            ("break k moor 0", "line 1: unknown name moor"), ("free k moor", "line 1: unknown name moor"),
            ("ask j moor", "line 1: unknown name j"), ("ask k moor", "line 1: unknown name moor"),
            ("states l", "line 1: unknown name l"), ("show l", "line 1: unknown name l"),
            ("print k", "line 1: unknown name k"), ("remove land k", "line 1: unknown name k"),
            ("remove case l", "line 1: unknown name l"), ("remove land l", "line 1: name in use l"),
            ("break k a 0", "line 1: invalid question"), ("redo", "line 1: nothing to redo"),
            ("x", "line 1: invalid command"),
        ):
            self.answers(session, text, line)
            self.answers(session, f"\n{text}\nlands", line.replace("line 1", "line 2"), "lands: l")
        for text, line in (
            ("land l\nwinds w\nplaces a\nend", "line 4: name in use l"), ("land m\nwinds w\nx\nend", "line 4: invalid notation 2"),
            ("land m\nwinds w\nplaces a\nlink l a a 1-2\nend", "line 5: invalid land"),
            ("case j m\nend", "line 2: unknown name m"), ("case j l\nwind 5 calm\nend", "line 3: invalid weather"),
        ):
            self.answers(session, text, "ok", line)
            self.answers(session, f"{text}\nlands", "ok", line, "lands: l")
        self.assertEqual(shown(session), before)
        self.answers(Session(), "undo", "line 1: nothing to undo")

    def test_errors_are_no_changes(self):
        session = opened()
        session.run("undo\nx\nask k moor\nland l\nend\nstart j a 0\nremove land moor")
        self.answers(session, "redo\ncases", "ok", "cases: k")

    def test_the_lines_after_an_error_are_done_as_usual(self):
        session = opened()
        lines = ["line 1: unknown name moor", "ok", "line 3: invalid command", "c: never", "line 5: unknown name x"]
        self.answers(session, "break k moor 1\nbreak k c 1\n!\nask k c\nstates x\nundo", *lines, "ok")

    def test_forty_starts(self):
        session = opened()
        self.assertEqual(session.run("\n".join(["start k a 1"] * 39)), ["ok"] * 39)
        self.answers(session, "start k a 1\nundo\nstart k a 1", "line 1: invalid question", "ok", "ok")


class WholeTest(AnswersTest):
    def test_two_sessions_are_apart(self):
        one, other = opened(), Session()
        self.answers(other, "lands\nundo", "lands:", "line 2: nothing to undo")
        self.answers(one, "lands", "lands: l")
        self.assertIsNot(one.book, other.book)

    def test_any_lines_at_all(self):
        words = ["land", "case", "start", "break", "free", "ask", "states", "show", "undo", "redo", "lands", "remove"]
        words += ["end"] * 6 + ["l", "k", "a", "b", "0", "7", "01", "calm", "wind", "winds", "places", "", "print"]
        lines = [*LAND.split("\n"), *CASE.split("\n"), "undo", "ask k a"]
        many = 0
        for seed in range(60):
            chance = random.Random(seed)
            session = Session()
            for _ in range(8):
                text = "\n".join(
                    chance.choice(lines) if chance.random() < 0.6 else " ".join(chance.choices(words, k=chance.randint(0, 4)))
                    for _ in range(chance.randint(0, 20))
                )
                answers = session.run(text)
                many += len(answers)
                for answer in answers:
                    self.assertIsInstance(answer, str)
                    self.assertNotIn("\n", answer)
        self.assertGreater(many, 500)

    def test_large_texts(self):
        land, weather, starts, _ = large_question()
        land = large_paths(land)
        rows = [f"wind {minute} {wind}" for minute, wind in weather] + [f"start {place} {minute}" for place, minute in starts]
        session = Session()
        begin = time.perf_counter()
        self.answers(session, f"land l\n{format_land(land)}\nend", "ok", "ok")
        self.answers(session, "\n".join(["case k l", *rows, "end"]), "ok", "ok")
        self.assertEqual(session.run("\n".join(["break k p5 7", "ask k p3", "undo"] * 300))[::3], ["ok"] * 300)
        self.assertEqual(session.run("print l"), format_land(land).split("\n"))
        self.assertLess(time.perf_counter() - begin, 5)


if __name__ == "__main__":
    unittest.main()

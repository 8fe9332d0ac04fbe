"""Points 59 to 62: the book."""

import copy
import random
import unittest

from everyfire.book import Book
from everyfire.errors import (
    EveryfireError, InvalidQuestion, InvalidWeather, NameInUse, NothingToRedo, NothingToUndo, UnknownName,
)
from everyfire.fires import states
from everyfire.lands import Land
from tests.scenes import STRANGE, line_land, raised

CALM = [(0, "calm")]
LINE = line_land(4, (2, 5))
OTHER = Land(winds=["west"], places=["hill"])
CHANGES = ("set_land", "remove_land", "set_case", "remove_case", "add_start", "add_break", "drop_breaks")


def filled():
    """Return a book with two lands and a case, and nothing that can be redone."""
    book = Book()
    book.set_land("line", LINE)
    book.set_land("other", OTHER)
    book.set_case("k", "line", CALM, [("p0", 0)], [("p2", 5), ("p3", 1), ("p2", 4)])
    return book


def contents(book):
    """Return all that is defined in a book."""
    lands = [(name, book.land(name)) for name in book.land_names()]
    return lands, [(name, book.case(name)) for name in book.case_names()]


def counters(book):
    return book.decided, book.kept


def undone_to(book, steps):
    for _ in range(steps):
        book.undo()
    return contents(book)


def depth(book):
    """Return how many changes of a book can be taken back, and how many made again."""
    there = copy.deepcopy(book)
    back = forth = 0
    while raised(there.undo) is None:
        back += 1
    there = copy.deepcopy(book)
    while raised(there.redo) is None:
        forth += 1
    return back, forth


class LandsTest(unittest.TestCase):
    """Points 59 and 60: lands."""

    def test_an_empty_book(self):
        book = Book()
        self.assertEqual((book.land_names(), book.case_names(), counters(book)), ([], [], (0, 0)))

    def test_set_and_remove(self):
        book = Book()
        self.assertIsNone(book.set_land("b", LINE))
        book.set_land("a", OTHER)
        self.assertEqual(book.land_names(), ["a", "b"])
        self.assertIs(book.land("b"), LINE)
        self.assertIs(book.land("a"), OTHER)
        self.assertIsNone(book.remove_land("b"))
        self.assertEqual(book.land_names(), ["a"])
        self.assertEqual(raised(book.land, "b"), (UnknownName, "b"))
        book.set_land("b", OTHER)
        self.assertIs(book.land("b"), OTHER)

    def test_names_are_told_in_ascending_order(self):
        book = Book()
        for name in ("m", "z", "a10", "a9", "a"):
            book.set_land(name, LINE)
        for name in ("q", "b", "k1", "k"):
            book.set_case(name, "z", CALM, [], [])
        self.assertEqual(book.land_names(), ["a", "a10", "a9", "m", "z"])
        self.assertEqual(book.case_names(), ["b", "k", "k1", "q"])

    def test_a_name_in_use(self):
        book = filled()
        self.assertEqual(raised(book.set_land, "line", OTHER), NameInUse)
        with self.assertRaises(NameInUse) as caught:
            book.set_land("other", LINE)
        self.assertEqual(caught.exception.name, "other")

    def test_removing_a_land_that_a_case_has(self):
        book = filled()
        with self.assertRaises(NameInUse) as caught:
            book.remove_land("line")
        self.assertEqual(caught.exception.name, "line")
        book.remove_land("other")
        book.remove_case("k")
        book.remove_land("line")
        self.assertEqual(contents(book), ([], []))

    def test_removing_a_land_that_a_case_had(self):
        book = filled()
        book.set_case("k", "other", [(0, "west")], [], [])
        book.remove_land("line")
        self.assertEqual(raised(book.remove_land, "other"), NameInUse)

    def test_removing_a_strange_land(self):
        book = filled()
        for name in ("moor", "k", "", "A b"):
            self.assertEqual(raised(book.remove_land, name), (UnknownName, name))
            self.assertEqual(raised(book.land, name), (UnknownName, name))


class CasesTest(unittest.TestCase):
    """Points 59 and 60: cases."""

    def test_a_case_is_told_as_tuples(self):
        book = filled()
        told = ("line", ((0, "calm"),), (("p0", 0),), (("p2", 5), ("p3", 1), ("p2", 4)))
        self.assertEqual(book.case("k"), told)
        for part in book.case("k")[1:]:
            self.assertIsInstance(part, tuple)
            self.assertTrue(all(isinstance(row, tuple) for row in part))

    def test_replacing_a_case(self):
        book = filled()
        self.assertIsNone(book.set_case("k", "other", [(0, "west")], [("hill", 3)], []))
        self.assertEqual(book.case("k"), ("other", ((0, "west"),), (("hill", 3),), ()))
        self.assertEqual(book.case_names(), ["k"])

    def test_removing_a_case(self):
        book = filled()
        self.assertIsNone(book.remove_case("k"))
        self.assertEqual(book.case_names(), [])
        self.assertEqual(raised(book.case, "k"), (UnknownName, "k"))

    def test_names_of_lands_and_cases_are_apart(self):
        book = filled()
        book.set_case("line", "line", CALM, [], [])
        book.set_land("k", OTHER)
        self.assertEqual((book.land_names(), book.case_names()), (["k", "line", "other"], ["k", "line"]))
        book.remove_case("line")
        self.assertIs(book.land("line"), LINE)
        book.remove_land("k")
        self.assertEqual(book.case("k")[0], "line")

    def test_adding(self):
        book = filled()
        self.assertIsNone(book.add_start("k", "p3", 7))
        self.assertIsNone(book.add_break("k", "p1", 2))
        book.add_start("k", "p0", 0)
        self.assertEqual(book.case("k")[2], (("p0", 0), ("p3", 7), ("p0", 0)))
        self.assertEqual(book.case("k")[3], (("p2", 5), ("p3", 1), ("p2", 4), ("p1", 2)))
        self.assertEqual(book.case("k")[:2], ("line", ((0, "calm"),)))

    def test_dropping(self):
        book = filled()
        self.assertIsNone(book.drop_breaks("k", "p2"))
        self.assertEqual(book.case("k"), ("line", ((0, "calm"),), (("p0", 0),), (("p3", 1),)))
        before = book.case("k")
        book.drop_breaks("k", "p2")
        book.drop_breaks("k", "p0")
        self.assertEqual(book.case("k"), before)
        # It is a change all the same.
        self.assertEqual(depth(book), (6, 0))

    def test_starts_are_not_dropped(self):
        book = filled()
        book.add_break("k", "p0", 9)
        book.drop_breaks("k", "p0")
        self.assertEqual(book.case("k")[2], (("p0", 0),))

    def test_forty_starts_and_breaks(self):
        book = filled()
        rows = [("p0", at) for at in range(40)]
        book.set_case("k", "line", CALM, rows, rows)
        self.assertEqual(raised(book.add_start, "k", "p0", 1), InvalidQuestion)
        self.assertEqual(raised(book.add_break, "k", "p0", 1), InvalidQuestion)
        for starts, breaks in (([*rows, ("p1", 0)], []), ([], [*rows, ("p1", 0)])):
            self.assertEqual(raised(book.set_case, "k", "line", CALM, starts, breaks), InvalidQuestion)
        self.assertEqual(book.case("k")[2:], (tuple(rows), tuple(rows)))
        book.drop_breaks("k", "p0")
        book.set_case("k", "line", CALM, rows[1:], rows[1:])
        book.add_start("k", "p0", 1)
        book.add_break("k", "p0", 1)
        self.assertEqual([len(rows) for rows in book.case("k")[2:]], [40, 40])

    def test_the_order_of_the_errors_of_set_case(self):
        many = [("p0", 1)] * 41
        told = [
            (("moor", [(0, "storm")], [("x1", 0)], many), (UnknownName, "moor")),
            (("k", [(0, "storm")], [("x1", 0)], many), (UnknownName, "k")),
            (("line", [(0, "storm")], [("x1", 0)], many), (UnknownName, "storm")),
            (("line", [], [("p0", 0), ("x1", 0)], [("x2", 0)]), (UnknownName, "x1")),
            (("line", [], many, [*many, ("x2", 0)]), (UnknownName, "x2")),
            (("line", [], many, many), InvalidWeather),
            (("line", [(1, "calm")], [], []), InvalidWeather),
            (("line", CALM, many, []), InvalidQuestion),
            (("line", CALM, [], many), InvalidQuestion),
        ]
        for arguments, error in told:
            for name in ("k", "new"):
                book = filled()
                before = contents(book)
                with self.subTest(arguments=arguments, name=name):
                    self.assertEqual(raised(book.set_case, name, *arguments), error)
                    self.assertEqual((contents(book), depth(book)), (before, (3, 0)))

    def test_strange_cases(self):
        for name in ("moor", "line", "", "A b"):
            book = filled()
            for change, arguments in (
                ("remove_case", ()), ("add_start", ("moor", 1)), ("add_break", ("moor", 1)), ("drop_breaks", ("moor",)),
                ("case", ()), ("answers", ()), ("answer", ("moor",)),
            ):
                with self.subTest(name=name, change=change):
                    self.assertEqual(raised(getattr(book, change), name, *arguments), (UnknownName, name))

    def test_strange_places(self):
        for name in STRANGE:
            book = filled()
            book.set_case("full", "line", CALM, [("p0", 0)] * 40, [("p0", 0)] * 40)
            for case in ("k", "full"):
                with self.subTest(name=name, case=case):
                    self.assertEqual(raised(book.add_start, case, name, 1), (UnknownName, name))
                    self.assertEqual(raised(book.add_break, case, name, 1), (UnknownName, name))
                    self.assertEqual(raised(book.drop_breaks, case, name), (UnknownName, name))

    def test_each_error_changes_nothing(self):
        book = filled()
        book.set_land("third", OTHER)
        book.undo()
        before = contents(book)
        for change, *arguments in (
            ("set_land", "line", OTHER), ("remove_land", "line"), ("remove_land", "moor"),
            ("set_case", "k", "moor", CALM, [], []), ("set_case", "new", "line", [], [], []), ("remove_case", "moor"),
            ("add_start", "k", "moor", 0), ("add_break", "k", "moor", 0), ("drop_breaks", "k", "moor"),
        ):
            with self.subTest(change=change, arguments=arguments):
                self.assertIsNotNone(raised(getattr(book, change), *arguments))
                self.assertEqual(contents(book), before)
                self.assertEqual(depth(book), (3, 1))
        book.redo()
        self.assertIs(book.land("third"), OTHER)

    def test_what_is_kept_is_a_copy(self):
        weather, starts, breaks = [(0, "calm")], [("p0", 0)], [("p2", 5)]
        book = filled()
        book.set_case("k", "line", weather, starts, breaks)
        before = book.case("k")
        for rows in (weather, starts, breaks):
            rows.clear()
        self.assertEqual(book.case("k"), before)
        book.set_case("k", "line", [[0, "calm"]], [["p0", 0]], [["p2", 5]])
        self.assertEqual(book.case("k"), before)

    def test_nothing_is_modified(self):
        told = ([(0, "calm")], [("p0", 0)], [("p2", 5)])
        changes = [("set_case", "k", "line", *told), ("add_start", "k", "p1", 3), ("drop_breaks", "k", "p2")]
        before = copy.deepcopy((told, changes))
        book = filled()
        book.set_case("k", "line", *told)
        book.change_all(changes)
        self.assertEqual((told, changes), before)

    def test_lists_are_new(self):
        book = filled()
        for ask in (book.land_names, book.case_names, lambda: book.answers("k")):
            first = ask()
            before = list(first)
            first.clear()
            self.assertEqual(ask(), before)


class UndoTest(unittest.TestCase):
    """Point 61: undo and redo."""

    def test_nothing_to_undo_and_nothing_to_redo(self):
        book = Book()
        self.assertEqual(raised(book.undo), NothingToUndo)
        self.assertEqual(raised(book.redo), NothingToRedo)
        book.set_land("line", LINE)
        self.assertEqual(raised(book.redo), NothingToRedo)
        self.assertIs(book.land("line"), LINE)

    def test_to_both_ends_and_beyond_them(self):
        book = Book()
        steps = [contents(book)]
        for change, *arguments in (
            ("set_land", "line", LINE), ("set_land", "other", OTHER), ("set_case", "k", "line", CALM, [("p0", 0)], []),
            ("add_start", "k", "p1", 3), ("add_break", "k", "p2", 5), ("add_break", "k", "p2", 4),
            ("drop_breaks", "k", "p2"), ("set_case", "k", "other", [(0, "west")], [], []), ("remove_land", "line"),
            ("set_land", "line", OTHER), ("remove_case", "k"), ("remove_land", "other"), ("remove_land", "line"),
        ):
            getattr(book, change)(*arguments)
            steps.append(contents(book))
        for _ in range(2):
            for step in steps[-2::-1]:
                self.assertIsNone(book.undo())
                self.assertEqual(contents(book), step)
            for _ in range(2):
                self.assertEqual(raised(book.undo), NothingToUndo)
                self.assertEqual(contents(book), steps[0])
            for step in steps[1:]:
                self.assertIsNone(book.redo())
                self.assertEqual(contents(book), step)
            for _ in range(2):
                self.assertEqual(raised(book.redo), NothingToRedo)
                self.assertEqual(contents(book), steps[-1])

    def test_a_change_behind_an_undo(self):
        book = filled()
        before = contents(book)
        book.add_start("k", "p1", 1)
        book.add_start("k", "p1", 2)
        book.undo()
        book.undo()
        self.assertEqual(depth(book), (3, 2))
        book.drop_breaks("k", "p0")
        self.assertEqual(depth(book), (4, 0))
        self.assertEqual(raised(book.redo), NothingToRedo)
        book.undo()
        self.assertEqual(contents(book), before)
        book.redo()
        self.assertEqual(raised(book.redo), NothingToRedo)

    def test_a_removed_land_comes_back_the_same(self):
        book = filled()
        book.remove_land("other")
        book.set_land("other", LINE)
        book.undo()
        book.undo()
        self.assertIs(book.land("other"), OTHER)
        book.redo()
        self.assertEqual(book.land_names(), ["line"])
        book.redo()
        self.assertIs(book.land("other"), LINE)

    def test_against_a_book_of_whole_copies(self):
        words = []
        for seed in range(40):
            chance = random.Random(seed)
            book = Book()
            back, forth = [contents(book)], []
            for _ in range(120):
                word = chance.choice(["undo", "redo", "change", "change"])
                if word == "change":
                    before = contents(book)
                    if random_change(chance, book):
                        back.append(contents(book))
                        forth = []
                    else:
                        word = "error"
                        self.assertEqual(contents(book), before)
                elif word == "undo" and len(back) > 1:
                    book.undo()
                    forth.append(back.pop())
                elif word == "redo" and forth:
                    book.redo()
                    back.append(forth.pop())
                else:
                    self.assertIn(raised(getattr(book, word)), (NothingToUndo, NothingToRedo))
                    word = "nothing to " + word
                words.append(word)
                with self.subTest(seed=seed, word=word):
                    self.assertEqual(contents(book), back[-1])
        for word in ("undo", "redo", "change", "error", "nothing to undo", "nothing to redo"):
            self.assertGreater(words.count(word), 100)


def random_arguments(chance, word):
    land, case = chance.choice(["l", "m"]), chance.choice(["k", "j"])
    place, minute = chance.choice(["p0", "p1", "p2", "p3", "moor"]), chance.randint(0, 9)
    return {
        "set_land": (land, chance.choice([LINE, OTHER])), "remove_land": (land,), "remove_case": (case,),
        "set_case": (case, land, CALM, [(place, minute)], [(place, 3)]), "add_start": (case, place, minute),
        "add_break": (case, place, minute), "drop_breaks": (case, place),
    }[word]


def random_change(chance, book):
    """Try a change, and return whether it raised no error."""
    word = chance.choice(CHANGES)
    try:
        getattr(book, word)(*random_arguments(chance, word))
    except EveryfireError:
        return False
    return True


class ChangeAllTest(unittest.TestCase):
    """Point 61: several changes."""

    GOOD = [("add_start", "k", "p1", 3), ("drop_breaks", "k", "p2"), ("remove_land", "other")]

    def test_each_is_a_change_of_its_own(self):
        book = filled()
        steps = [contents(book)]
        for word, *arguments in self.GOOD:
            getattr(book, word)(*arguments)
            steps.append(contents(book))
        book = filled()
        self.assertIsNone(book.change_all(self.GOOD))
        self.assertEqual(contents(book), steps[-1])
        self.assertEqual(depth(book), (6, 0))
        for step in steps[-2::-1]:
            book.undo()
            self.assertEqual(contents(book), step)

    def test_all_changes(self):
        book = Book()
        book.change_all([
            ("set_land", "l", LINE), ("set_land", "m", OTHER), ("set_case", "k", "l", CALM, [("p0", 0)], []),
            ("set_case", "j", "m", [(0, "west")], [], []), ("add_start", "k", "p1", 1), ("add_break", "k", "p2", 2),
            ("add_break", "k", "p3", 3), ("drop_breaks", "k", "p2"), ("remove_case", "j"), ("remove_land", "m"),
        ])
        self.assertEqual(book.land_names(), ["l"])
        self.assertEqual(book.case_names(), ["k"])
        self.assertEqual(book.case("k"), ("l", ((0, "calm"),), (("p0", 0), ("p1", 1)), (("p3", 3),)))
        self.assertEqual(depth(book), (10, 0))

    def test_an_error_at_any_place(self):
        wrong = [
            (("add_start", "k", "moor", 3), (UnknownName, "moor")), (("set_land", "line", OTHER), NameInUse),
            (("set_case", "k", "line", [], [], []), InvalidWeather), (("remove_land", "line"), NameInUse),
            (("set_case", "k", "line", CALM, [("p0", 0)] * 41, []), InvalidQuestion),
        ]
        for at in range(len(self.GOOD) + 1):
            for change, error in wrong:
                book = filled()
                before = contents(book)
                changes = [*self.GOOD[:at], change, *self.GOOD[at:]]
                with self.subTest(at=at, change=change[0]):
                    self.assertEqual(raised(book.change_all, changes), error)
                    self.assertEqual(contents(book), before)
                    self.assertEqual(depth(book), (3, 0))

    def test_what_can_be_redone_behind_an_error_is_as_before(self):
        for at in range(len(self.GOOD) + 1):
            book = filled()
            book.add_break("k", "p1", 9)
            book.remove_case("k")
            last = contents(book)
            book.undo()
            middle = contents(book)
            book.undo()
            first = contents(book)
            changes = [*self.GOOD[:at], ("remove_case", "moor"), *self.GOOD[at:]]
            with self.subTest(at=at):
                for _ in range(2):
                    self.assertEqual(raised(book.change_all, changes), (UnknownName, "moor"))
                    self.assertEqual(contents(book), first)
                    self.assertEqual(depth(book), (3, 2))
                book.redo()
                self.assertEqual(contents(book), middle)
                book.redo()
                self.assertEqual(contents(book), last)
                self.assertEqual(raised(book.redo), NothingToRedo)

    def test_without_an_error_nothing_can_be_redone(self):
        book = filled()
        book.undo()
        book.undo()
        book.change_all([("set_land", "third", OTHER)])
        self.assertEqual(depth(book), (2, 0))

    def test_no_changes(self):
        book = filled()
        book.undo()
        self.assertIsNone(book.change_all([]))
        self.assertEqual(depth(book), (2, 1))

    def test_a_change_may_need_the_ones_ahead_of_it(self):
        book = Book()
        changes = [("set_land", "l", LINE), ("set_case", "k", "l", CALM, [], []), ("remove_case", "k")]
        book.change_all([*changes, ("remove_land", "l"), ("set_land", "l", OTHER)])
        self.assertIs(book.land("l"), OTHER)
        self.assertEqual(raised(book.change_all, changes[::-1]), (UnknownName, "k"))

    def test_entries_stay_the_same_behind_an_error(self):
        book = filled()
        book.answers("k")
        self.assertIsNotNone(raised(book.change_all, [*self.GOOD, ("remove_case", "moor")]))
        book.answers("k")
        self.assertEqual(counters(book), (1, 1))


class AnswersTest(unittest.TestCase):
    """Point 62."""

    def test_states(self):
        book = filled()
        told = (LINE, CALM, [("p0", 0)], [("p2", 5), ("p3", 1), ("p2", 4)])
        self.assertEqual(book.answers("k"), states(*told))
        self.assertEqual(book.answers("k"), [("p0", "surely"), ("p1", "surely"), ("p2", "never"), ("p3", "never")])
        for place, state in states(*told):
            self.assertEqual(book.answer("k", place), state)
        book.drop_breaks("k", "p2")
        self.assertEqual(book.answers("k")[2:], [("p2", "surely"), ("p3", "never")])
        book.add_break("k", "p2", 9)
        self.assertEqual(book.answer("k", "p2"), "maybe")

    def test_asked_again_and_again(self):
        book = filled()
        expected = [(1, 0), (1, 1), (1, 2), (1, 3)]
        for at, ask in enumerate((book.answers, book.answers, book.answer, book.answer)):
            ask(*["k", "p1"][:1 + at // 2])
            self.assertEqual(counters(book), expected[at])
        book = filled()
        book.answer("k", "p3")
        self.assertEqual(counters(book), (1, 0))
        book.answers("k")
        self.assertEqual(counters(book), (1, 1))

    def test_changes_and_other_questions_count_for_nothing(self):
        book = filled()
        book.case("k")
        book.land("line")
        book.land_names()
        book.case_names()
        book.add_start("k", "p1", 1)
        book.undo()
        book.redo()
        book.change_all([("drop_breaks", "k", "p2")])
        self.assertEqual(counters(book), (0, 0))

    def test_each_case_by_itself(self):
        book = filled()
        book.set_case("j", "line", CALM, [("p0", 0)], [("p2", 5), ("p3", 1), ("p2", 4)])
        book.answers("k")
        book.answers("j")
        self.assertEqual(counters(book), (2, 0))
        book.remove_case("j")
        book.answers("k")
        self.assertEqual(counters(book), (2, 1))

    def test_a_change_that_leaves_the_case_as_before(self):
        book = filled()
        book.answers("k")
        book.drop_breaks("k", "p0")
        book.answers("k")
        self.assertEqual(counters(book), (2, 0))
        book.set_case("k", *book.case("k"))
        book.answer("k", "p0")
        self.assertEqual(counters(book), (3, 0))

    def test_undo_and_redo_bring_back_the_entries(self):
        book = filled()
        book.answers("k")
        book.add_break("k", "p1", 1)
        book.undo()
        book.answers("k")
        self.assertEqual(counters(book), (1, 1))
        book.redo()
        book.answers("k")
        self.assertEqual(counters(book), (2, 1))
        self.assertEqual(book.answer("k", "p1"), "never")
        book.undo()
        self.assertEqual(book.answer("k", "p1"), "surely")
        book.redo()
        self.assertEqual(book.answer("k", "p1"), "never")
        self.assertEqual(counters(book), (2, 4))

    def test_a_removed_case_comes_back_with_its_states(self):
        book = filled()
        book.answers("k")
        book.remove_case("k")
        book.undo()
        book.answers("k")
        self.assertEqual(counters(book), (1, 1))
        book.remove_case("k")
        book.set_case("k", "line", CALM, [("p0", 0)], [])
        book.answers("k")
        self.assertEqual(counters(book), (2, 1))
        book.undo()
        book.undo()
        book.answers("k")
        self.assertEqual(counters(book), (2, 2))

    def test_an_entry_that_was_never_asked_for(self):
        book = filled()
        book.add_break("k", "p1", 1)
        book.undo()
        book.answers("k")
        book.redo()
        book.answers("k")
        self.assertEqual(counters(book), (2, 0))

    def test_unknown_names_count_for_nothing(self):
        book = filled()
        for name in STRANGE:
            self.assertEqual(raised(book.answers, name), (UnknownName, name))
            self.assertEqual(raised(book.answer, name, "moor"), (UnknownName, name))
            self.assertEqual(raised(book.answer, "k", name), (UnknownName, name))
        self.assertEqual(counters(book), (0, 0))
        book.answers("k")
        self.assertEqual(raised(book.answer, "k", "moor"), (UnknownName, "moor"))
        self.assertEqual(counters(book), (1, 0))

    def test_what_is_told_is_a_copy(self):
        book = filled()
        book.answers("k").clear()
        self.assertEqual(len(book.answers("k")), 4)


if __name__ == "__main__":
    unittest.main()

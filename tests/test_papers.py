"""Points 26 to 30: papers."""

import copy
import random
import unittest
from unittest import mock

from everyfire import questions
from everyfire.errors import InvalidWeather, UnknownName
from everyfire.fires import fastest, slowest, state_of
from everyfire.lands import Land
from everyfire.papers import Paper, check_paper, paper
from tests.scenes import STRANGE, large_question, line_land, raised, random_question

CALM = [(0, "calm")]
LINE = line_land(3, (2, 5))
START = [("p0", 0)]


def parts(told):
    return (told.word, told.labels, told.chain)


class PaperTestCase(unittest.TestCase):
    """Asks whether papers about a place are right, in one question."""

    def ask(self, land, weather, starts, breaks, place):
        self.asked = (land, weather, starts, breaks, place)

    def tells(self, expected, word, labels, chain):
        with self.subTest(asked=self.asked[1:], word=word, labels=labels, chain=chain):
            self.assertIs(check_paper(*self.asked, Paper(word, labels, chain)), expected)

    def right(self, word, labels, chain):
        self.tells(True, word, labels, chain)
        # Whoever made the paper, its word is the state (point 30).
        self.assertEqual(state_of(*self.asked), word)

    def wrong(self, word, labels, chain):
        self.tells(False, word, labels, chain)


class PaperClassTest(unittest.TestCase):
    def test_fields_are_copies_with_tuples_as_rows(self):
        labels = [["a", 3], ("b", 4)]
        chain = [["a", None, 3], ("b", "l", 4)]
        told = Paper("maybe", labels, chain)
        expected = ("maybe", [("a", 3), ("b", 4)], [("a", None, 3), ("b", "l", 4)])
        self.assertEqual(parts(told), expected)
        labels[0][1] = 9
        labels.append(("c", 5))
        chain[0][2] = 9
        del chain[1]
        self.assertEqual(parts(told), expected)
        self.assertEqual(parts(Paper("other", (("a", 1),), ())), ("other", [("a", 1)], []))

    def test_fields_are_lists_of_each_paper(self):
        one, other = Paper("never", [], []), Paper("never", [], [])
        one.labels.append(("a", 1))
        one.chain.append(("a", None, 1))
        self.assertEqual(parts(other), ("never", [], []))


class LabelsTest(PaperTestCase):
    """Point 26, by papers that a place never burns."""

    def setUp(self):
        # p1 burns from 5 to 8 on at the earliest, and p2 is broken.
        links = [("l0", "p0", "p1", [(5, 8)]), ("l1", "p1", "p2", [(1, 9)]), ("l2", "p2", "p3", [(1, 1)])]
        self.land = Land(winds=["calm"], places=["p0", "p1", "p2", "p3"], links=links)
        self.ask(self.land, CALM, [("p0", 3)], [("p2", 9)], "p3")

    def labels(self, *rows):
        return list(rows)

    def test_right_labels(self):
        self.right("never", [("p0", 3), ("p1", 8)], [])
        self.right("never", [("p1", 8), ("p0", 3)], [])

    def test_labels_too_late_by_one_for_a_start(self):
        self.wrong("never", [("p0", 4), ("p1", 8)], [])
        self.wrong("never", [("p0", 4), ("p1", 9)], [])

    def test_labels_too_late_by_one_for_a_link(self):
        self.wrong("never", [("p0", 3), ("p1", 9)], [])

    def test_labels_that_are_earlier_than_they_must_be(self):
        # From 8 on, p1 brings the fire to p2 at its break.
        self.wrong("never", [("p0", 3), ("p1", 7)], [])
        self.wrong("never", [("p0", 0), ("p1", 7)], [])
        self.wrong("never", [("p0", 2), ("p1", 8)], [])
        self.ask(self.land, CALM, [("p0", 3)], [("p2", 8)], "p3")
        self.right("never", [("p0", 3), ("p1", 8)], [])
        self.right("never", [("p0", 3), ("p1", 7)], [])
        self.right("never", [("p0", 2), ("p1", 7)], [])
        self.wrong("never", [("p0", 2), ("p1", 8)], [])
        self.wrong("never", [("p0", 1), ("p1", 6)], [])

    def test_a_place_that_the_fire_comes_to_has_a_number(self):
        self.wrong("never", [("p0", 3)], [])
        self.wrong("never", [("p1", 8)], [])
        self.wrong("never", [], [])

    def test_a_place_twice(self):
        self.right("never", [("p0", 7), ("p0", 3), ("p1", 30), ("p1", 8), ("p1", 9)], [])
        self.wrong("never", [("p0", 3), ("p1", 8), ("p1", 7)], [])
        self.wrong("never", [("p0", 3), ("p1", 8), ("p0", 2)], [])
        self.wrong("never", [("p0", 4), ("p0", 5), ("p1", 8)], [])

    def test_the_place_has_no_number(self):
        self.wrong("never", [("p0", 3), ("p1", 8), ("p3", 10)], [])
        self.wrong("never", [("p0", 3), ("p1", 8), ("p3", 100000)], [])
        self.ask(self.land, CALM, [("p0", 3)], [("p2", 9)], "p2")
        self.right("never", [("p0", 3), ("p1", 8)], [])
        self.right("never", [("p0", 3), ("p1", 8), ("p3", 10)], [])
        self.wrong("never", [("p0", 3), ("p1", 8), ("p2", 10), ("p3", 11)], [])

    def test_what_burns_nowhere_may_have_a_number(self):
        self.wrong("never", [("p0", 3), ("p1", 8), ("p2", 10)], [])
        self.ask(self.land, CALM, [("p0", 3)], [("p2", 9), ("p3", 11)], "p3")
        self.right("never", [("p0", 3), ("p1", 8), ("p2", 10)], [])
        self.wrong("never", [("p0", 3), ("p1", 8), ("p2", 9)], [])

    def test_numbers_below_0(self):
        self.ask(self.land, CALM, [("p0", 3)], [("p2", 0)], "p3")
        self.right("never", [("p0", 3), ("p1", 0)], [])
        self.right("never", [("p0", 0), ("p1", 0)], [])
        self.wrong("never", [("p0", 3), ("p1", -1)], [])
        self.wrong("never", [("p0", -1), ("p1", 3)], [])
        self.wrong("never", [("p0", 3), ("p1", 8), ("p1", -5)], [])

    def test_strange_places(self):
        for name in STRANGE:
            self.wrong("never", [("p0", 3), ("p1", 8), (name, 4)], [])
            self.wrong("never", [(name, 3)], [])

    def test_a_start_that_the_break_stops(self):
        for minute in (2, 3):
            self.ask(self.land, CALM, [("p0", 3)], [("p0", minute)], "p3")
            self.right("never", [], [])
        self.ask(self.land, CALM, [("p0", 3)], [("p0", 4), ("p1", 8)], "p3")
        self.wrong("never", [], [])
        self.right("never", [("p0", 3)], [])
        self.ask(self.land, CALM, [("p0", 7), ("p0", 3), ("p3", 6)], [("p0", 5), ("p1", 8), ("p3", 6)], "p3")
        self.right("never", [("p0", 3)], [])
        self.wrong("never", [("p0", 7)], [])

    def test_the_fastest_fire_counts_for_never(self):
        self.ask(line_land(2, (2, 5)), CALM, START, [("p1", 3)], "p1")
        self.wrong("never", [("p0", 0)], [])
        self.ask(line_land(2, (2, 5)), CALM, START, [("p1", 2)], "p1")
        self.right("never", [("p0", 0)], [])

    def test_labels_and_waiting_for_the_wind(self):
        land = Land(winds=["north", "west"], places=["a", "b"], links=[("l", "a", "b", [(9, 9), (2, 2)])])
        weather = [(0, "north"), (5, "west")]
        for minute in (0, 5):
            self.ask(land, weather, [("a", minute)], [("b", 7)], "b")
            self.right("never", [("a", minute)], [])
            self.ask(land, weather, [("a", minute)], [("b", 8)], "b")
            self.wrong("never", [("a", minute)], [])
        shut = Land(winds=["north", "west"], places=["a", "b"], links=[("l", "a", "b", [(9, 9), None])])
        self.ask(shut, weather, [("a", 5)], [], "b")
        self.right("never", [("a", 5)], [])
        self.wrong("never", [("a", 4)], [])

    def test_nothing_burns(self):
        self.ask(self.land, CALM, [], [], "p3")
        self.right("never", [], [])
        self.wrong("never", [("p0", 0)], [])
        self.ask(self.land, CALM, [], [], "p0")
        self.right("never", [("p3", 0)], [])


class ChainTest(PaperTestCase):
    """Point 27, by papers that a place surely burns."""

    RIGHT = [("p0", None, 0), ("p1", "l0", 5), ("p2", "l1", 10)]

    def setUp(self):
        self.ask(LINE, CALM, START, [], "p2")

    def test_a_right_chain(self):
        self.right("surely", [], self.RIGHT)

    def test_an_empty_chain(self):
        self.wrong("surely", [], [])
        self.wrong("maybe", [], [])

    def test_a_chain_of_one_row(self):
        self.wrong("surely", [], [("p0", None, 0)])
        self.ask(LINE, CALM, [("p0", 4)], [("p0", 5)], "p0")
        self.right("surely", [], [("p0", None, 4)])
        self.wrong("surely", [], [("p0", None, 3)])
        self.wrong("surely", [], [("p0", None, 5)])
        self.wrong("surely", [], [("p0", "l0", 4)])
        self.wrong("surely", [], [("p0", "", 4)])
        self.wrong("surely", [], [("p1", None, 4)])

    def test_a_later_start_of_the_same_place(self):
        self.ask(LINE, CALM, [("p0", 4), ("p0", 9)], [], "p0")
        self.right("surely", [], [("p0", None, 4)])
        self.right("surely", [], [("p0", None, 9)])
        self.wrong("surely", [], [("p0", None, 6)])
        self.ask(LINE, CALM, [("p0", 9), ("p0", 4)], [], "p1")
        self.right("surely", [], [("p0", None, 9), ("p1", "l0", 14)])
        self.right("surely", [], [("p0", None, 4), ("p1", "l0", 9)])
        self.wrong("surely", [], [("p0", None, 9), ("p1", "l0", 9)])
        self.ask(LINE, CALM, [("p0", 4), ("p0", 9)], [("p0", 9)], "p0")
        self.right("surely", [], [("p0", None, 4)])
        self.wrong("surely", [], [("p0", None, 9)])

    def test_minutes_too_early_or_too_late_by_one(self):
        for at in range(3):
            for step in (-1, 1):
                chain = list(self.RIGHT)
                place, link, minute = chain[at]
                chain[at] = (place, link, minute + step)
                self.wrong("surely", [], chain)
        self.wrong("surely", [], [("p0", None, 0), ("p1", "l0", 6), ("p2", "l1", 11)])
        self.wrong("surely", [], [("p0", None, 0), ("p1", "l0", 2), ("p2", "l1", 4)])

    def test_minutes_at_or_behind_a_break(self):
        for place, minute in (("p0", 0), ("p1", 5), ("p2", 10)):
            self.ask(LINE, CALM, START, [(place, minute)], "p2")
            self.wrong("surely", [], self.RIGHT)
            self.ask(LINE, CALM, START, [(place, max(0, minute - 1))], "p2")
            self.wrong("surely", [], self.RIGHT)
            self.ask(LINE, CALM, START, [(place, minute + 1)], "p2")
            self.right("surely", [], self.RIGHT)
            self.ask(LINE, CALM, START, [(place, minute + 9), (place, minute)], "p2")
            self.wrong("surely", [], self.RIGHT)

    def test_a_link_from_another_place_or_to_another_place(self):
        links = [("l0", "a", "b", [(3, 3)]), ("l1", "a", "c", [(3, 3)]), ("l2", "b", "d", [(3, 3)])]
        land = Land(winds=["calm"], places=["a", "b", "c", "d"], links=[*links, ("l3", "c", "d", [(3, 3)])])
        self.ask(land, CALM, [("a", 0)], [], "d")
        self.right("surely", [], [("a", None, 0), ("b", "l0", 3), ("d", "l2", 6)])
        self.right("surely", [], [("a", None, 0), ("c", "l1", 3), ("d", "l3", 6)])
        self.wrong("surely", [], [("a", None, 0), ("b", "l0", 3), ("d", "l3", 6)])
        self.wrong("surely", [], [("a", None, 0), ("c", "l1", 3), ("d", "l2", 6)])
        self.wrong("surely", [], [("a", None, 0), ("c", "l0", 3), ("d", "l3", 6)])
        self.wrong("surely", [], [("a", None, 0), ("d", "l2", 6)])
        self.wrong("surely", [], [("a", None, 0), ("d", "l2", 3)])
        self.wrong("surely", [], [("b", "l0", 3), ("d", "l2", 6)])
        self.wrong("surely", [], [("b", None, 3), ("d", "l2", 6)])
        self.wrong("surely", [], [("a", None, 0), ("b", None, 3), ("d", "l2", 6)])

    def test_a_slower_link_between_the_same_places(self):
        links = [("l0", "a", "b", [(3, 3)]), ("l1", "a", "b", [(8, 8)])]
        land = Land(winds=["calm"], places=["a", "b"], links=links)
        self.ask(land, CALM, [("a", 0)], [], "b")
        self.right("surely", [], [("a", None, 0), ("b", "l0", 3)])
        self.right("surely", [], [("a", None, 0), ("b", "l1", 8)])
        self.wrong("surely", [], [("a", None, 0), ("b", "l0", 8)])
        self.wrong("surely", [], [("a", None, 0), ("b", "l1", 3)])

    def test_a_chain_that_comes_to_another_place(self):
        self.wrong("surely", [], self.RIGHT[:2])
        self.ask(LINE, CALM, START, [], "p1")
        self.right("surely", [], self.RIGHT[:2])
        self.wrong("surely", [], self.RIGHT)

    def test_a_chain_with_a_way_round(self):
        links = [("l0", "a", "b", [(3, 3)]), ("l1", "b", "a", [(3, 3)])]
        land = Land(winds=["calm"], places=["a", "b"], links=links)
        self.ask(land, CALM, [("a", 0)], [], "a")
        self.right("surely", [], [("a", None, 0), ("b", "l0", 3), ("a", "l1", 6)])

    def test_a_chain_that_waits_for_the_wind(self):
        land = Land(winds=["north", "west"], places=["a", "b"], links=[("l", "a", "b", [(9, 9), (2, 2)])])
        self.ask(land, [(0, "north"), (5, "west")], [("a", 0)], [], "b")
        self.right("surely", [], [("a", None, 0), ("b", "l", 7)])
        self.wrong("surely", [], [("a", None, 0), ("b", "l", 9)])
        self.wrong("surely", [], [("a", None, 0), ("b", "l", 2)])

    def test_a_link_that_never_opens_again(self):
        land = Land(winds=["north", "west"], places=["a", "b"], links=[("l", "a", "b", [(9, 9), None])])
        self.ask(land, [(0, "north"), (5, "west")], [("a", 5)], [], "b")
        for minute in (0, 5, 9, 14, 15):
            self.wrong("surely", [], [("a", None, 5), ("b", "l", minute)])

    def test_strange_names_in_a_chain(self):
        for name in STRANGE:
            self.wrong("surely", [], [(name, None, 0), *self.RIGHT[1:]])
            self.wrong("surely", [], [self.RIGHT[0], (name, "l0", 5), self.RIGHT[2]])
            self.wrong("surely", [], [*self.RIGHT[:2], (name, "l1", 10)])
            if name != "l0":
                self.wrong("surely", [], [self.RIGHT[0], ("p1", name, 5), self.RIGHT[2]])
            self.wrong("surely", [], [("p0", name, 0), *self.RIGHT[1:]])

    def test_minutes_below_0(self):
        self.wrong("surely", [], [("p0", None, -1), ("p1", "l0", 5), ("p2", "l1", 10)])
        self.wrong("surely", [], [("p0", None, -5), ("p1", "l0", 0), ("p2", "l1", 5)])
        for minute in (-1, -5):
            self.ask(LINE, CALM, [("p0", minute)], [], "p1")
            self.wrong("surely", [], [("p0", None, minute), ("p1", "l0", minute + 5)])
            self.wrong("surely", [], [("p0", None, minute), ("p1", "l0", 5)])


class WordsTest(PaperTestCase):
    """Point 28."""

    SLOW = [("p0", None, 0), ("p1", "l0", 5), ("p2", "l1", 10)]
    FAST = [("p0", None, 0), ("p1", "l0", 2), ("p2", "l1", 4)]

    def test_surely(self):
        self.ask(LINE, CALM, START, [], "p2")
        self.right("surely", [], self.SLOW)
        self.wrong("surely", [], self.FAST)
        self.wrong("surely", [("p0", 0)], self.SLOW)
        self.wrong("surely", [("p0", 0), ("p1", 2), ("p2", 4)], self.SLOW)
        self.wrong("maybe", [], self.SLOW)
        self.wrong("maybe", [("p0", 0), ("p1", 5)], self.FAST)
        self.wrong("never", [], [])
        self.wrong("never", [("p0", 0), ("p1", 2)], [])

    def test_maybe(self):
        self.ask(LINE, CALM, START, [("p2", 5)], "p2")
        self.right("maybe", [("p0", 0), ("p1", 5)], self.FAST)
        self.wrong("maybe", [("p0", 0), ("p1", 5)], self.SLOW)
        self.wrong("maybe", [("p0", 0), ("p1", 5)], [])
        self.wrong("maybe", [], self.FAST)
        self.wrong("maybe", [("p0", 0), ("p1", 6)], self.FAST)
        self.wrong("maybe", [("p0", 0)], self.FAST)
        self.wrong("maybe", [("p0", 0), ("p1", 5), ("p2", 10)], self.FAST)
        self.wrong("maybe", [("p0", 0), ("p1", -1)], self.FAST)
        self.wrong("maybe", [("p0", 0), ("p1", 5), ("moor", 1)], self.FAST)
        self.wrong("never", [("p0", 0), ("p1", 5)], [])
        self.wrong("never", [("p0", 0), ("p1", 2)], [])
        self.wrong("surely", [], self.FAST)
        self.wrong("surely", [], self.SLOW)

    def test_never(self):
        self.ask(LINE, CALM, START, [("p2", 4)], "p2")
        self.right("never", [("p0", 0), ("p1", 2)], [])
        self.wrong("never", [("p0", 0), ("p1", 2)], self.FAST[:1])
        self.wrong("never", [("p0", 0), ("p1", 2)], self.FAST)
        self.wrong("maybe", [("p0", 0), ("p1", 2)], [])
        self.wrong("maybe", [("p0", 0), ("p1", 5)], self.FAST)
        self.wrong("surely", [], [])
        self.wrong("surely", [], self.FAST)

    def test_other_words(self):
        self.ask(LINE, CALM, START, [], "p2")
        for word in ("", "Surely", "sure", "surely ", "always", "p2"):
            self.wrong(word, [], self.SLOW)
            self.wrong(word, [], [])
            self.wrong(word, [("p0", 0)], [])
        self.ask(LINE, CALM, [], [], "p2")
        for word in ("", "NEVER", "never\n", "no"):
            self.wrong(word, [], [])


class MadePapersTest(unittest.TestCase):
    """Points 29 and 30."""

    def minutes(self, rows):
        return [(place, minute) for place, minute in rows if minute is not None]

    def check_made(self, told, place):
        made = paper(*told, place)
        self.assertIsInstance(made, Paper)
        first, last = self.minutes(fastest(*told)), self.minutes(slowest(*told))
        self.assertEqual(made.word, state_of(*told, place))
        expected = {"never": (first, None), "surely": ([], dict(last).get(place)), "maybe": (last, dict(first).get(place))}
        labels, minute = expected[made.word]
        self.assertEqual(made.labels, labels)
        if minute is None:
            self.assertEqual(made.chain, [])
        else:
            self.assertEqual((made.chain[-1][0], made.chain[-1][2]), (place, minute))
        self.assertIs(check_paper(*told, place, made), True)
        return made.word

    def test_papers_about_each_place(self):
        words = []
        for seed in range(300):
            told = random_question(random.Random(seed))
            for place in told[0].places:
                with self.subTest(seed=seed, place=place):
                    words.append(self.check_made(told, place))
        self.assertTrue(all(words.count(word) > 50 for word in ("never", "maybe", "surely")))

    def test_papers_of_a_large_question(self):
        told = large_question()
        for place in told[0].places:
            self.check_made(told, place)

    def test_papers_far_above_the_last_change(self):
        told = (line_land(24, (900, 1000)), CALM, [("p0", 100000)], [("p20", 119000)])
        words = [self.check_made(told, place) for place in told[0].places]
        self.assertEqual(words, ["surely"] * 20 + ["maybe"] * 4)

    def test_a_start_that_a_break_stops_is_not_told(self):
        told = (LINE, CALM, [("p1", 9), ("p0", 0), ("p1", 3)], [("p1", 3)])
        self.assertEqual(parts(paper(*told, "p1")), ("maybe", [("p0", 0)], [("p0", None, 0), ("p1", "l0", 2)]))

    def test_changed_papers_that_are_taken_tell_the_state(self):
        taken = 0
        for seed in range(400):
            chance = random.Random(seed)
            told = random_question(chance, places=4, links=6)
            place, other = chance.choice(told[0].places), chance.choice(told[0].places)
            made = paper(*told, other)
            changed = Paper(chance.choice(["never", "maybe", "surely"]), made.labels, made.chain)
            for rows in (changed.labels, changed.chain):
                if rows and chance.random() < 0.7:
                    self.change(chance, rows)
            if check_paper(*told, place, changed):
                taken += 1
                with self.subTest(seed=seed, place=place):
                    self.assertEqual(changed.word, state_of(*told, place))
        self.assertGreater(taken, 20)

    def change(self, chance, rows):
        """Change one row a little, or leave it out."""
        at = chance.randrange(len(rows))
        if chance.random() < 0.3:
            del rows[at]
        else:
            rows[at] = (*rows[at][:-1], rows[at][-1] + chance.choice([-1, 1, 3]))

    def test_checking_finds_no_fire(self):
        told = random_question(random.Random(4))
        made = [(place, paper(*told, place)) for place in told[0].places]
        barred = mock.Mock(side_effect=AssertionError("a fire was looked for"))
        with mock.patch.object(questions.Question, "catches", barred):
            for place, found in made:
                self.assertIs(check_paper(*told, place, found), True)


class ErrorsTest(unittest.TestCase):
    """Point 38, for papers."""

    def told(self, *asked):
        expected = raised(paper, *asked)
        self.assertEqual(raised(check_paper, *asked, Paper("", [("x", -1)], [])), expected)
        return expected

    def test_order(self):
        wrong = [(1, "calm")]
        self.assertEqual(self.told(LINE, [(1, "v"), (0, "w")], [("s", 0)], [("b", 0)], "x"), (UnknownName, "v"))
        self.assertEqual(self.told(LINE, wrong, [("p0", 0), ("s", 0)], [("b", 0)], "x"), (UnknownName, "s"))
        self.assertEqual(self.told(LINE, wrong, START, [("b", 0), ("c", 0)], "x"), (UnknownName, "b"))
        self.assertEqual(self.told(LINE, wrong, START, [("p1", 0)], "x"), (UnknownName, "x"))
        self.assertEqual(self.told(LINE, wrong, START, [], "p0"), InvalidWeather)
        self.assertEqual(self.told(LINE, [], START, [], "p0"), InvalidWeather)
        self.assertIsNone(self.told(LINE, CALM, START, [], "p0"))

    def test_strange_names(self):
        for name in STRANGE:
            self.assertEqual(self.told(LINE, CALM, START, [], name), (UnknownName, name))


class ArgumentsTest(unittest.TestCase):
    """Point 1."""

    def test_arguments_are_not_changed(self):
        told = random_question(random.Random(9))
        before = copy.deepcopy(told[1:])
        for place in told[0].places:
            made = paper(*told, place)
            kept = copy.deepcopy(parts(made))
            check_paper(*told, place, made)
            self.assertEqual(parts(made), kept)
            made.labels.clear()
            made.chain.clear()
            self.assertEqual(parts(paper(*told, place)), kept)
        self.assertEqual(told[1:], before)


if __name__ == "__main__":
    unittest.main()

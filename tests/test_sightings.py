"""Points 31 to 33 and 36 to 38: what was seen."""

import copy
import random
import unittest

from everyfire.errors import InvalidWeather, UnknownName
from everyfire.fires import burning, fastest, slowest
from everyfire.lands import Land
from everyfire.sightings import (
    bounds_of, can_be_clear, can_be_seen, contradictions, denied_clears, denied_seens,
)
from tests.scenes import (
    STRANGE, extreme, large_question, line_land, raised, random_numbers, random_question, random_rows, slow_burning,
)

CALM = [(0, "calm")]
# p1 burns from 2 to 5 on, and p2 from 4 to 10 on.
QUESTION = (line_land(3, (2, 5)), CALM, [("p0", 0)], [])


def burns(rows, place, minute):
    begin = dict(rows)[place]
    return begin is not None and begin <= minute


class ClearsTest(unittest.TestCase):
    """Points 31 and 32."""

    def test_around_the_minute_of_the_slowest_fire(self):
        for place, minute in (("p0", 0), ("p1", 5), ("p2", 10)):
            for clear in (minute - 1, minute, minute + 1, minute + 10 ** 6):
                with self.subTest(place=place, clear=clear):
                    denied = clear >= minute
                    told = [(place, clear)]
                    self.assertEqual(denied_clears(*QUESTION, told), told if denied else [])
                    self.assertIs(can_be_clear(*QUESTION, told), not denied)

    def test_several_clears(self):
        clears = [("p2", 10), ("p1", 9), ("p1", 4), ("p1", 5), ("p2", 9), ("p1", 9), ("p0", 0)]
        denied = [("p2", 10), ("p1", 9), ("p1", 5), ("p1", 9), ("p0", 0)]
        self.assertEqual(denied_clears(*QUESTION, clears), denied)
        self.assertEqual(denied_clears(*QUESTION, clears[::-1]), denied[::-1])
        self.assertIs(can_be_clear(*QUESTION, clears), False)
        self.assertIs(can_be_clear(*QUESTION, [("p1", 4), ("p2", 9), ("p1", 0)]), True)
        self.assertIs(can_be_clear(*QUESTION, [("p1", 4), ("p2", 9), ("p1", 5)]), False)

    def test_a_place_that_does_not_burn_in_the_slowest_fire(self):
        for stop in (2, 3, 5):
            told = (*QUESTION[:3], [("p1", stop)])
            self.assertEqual(denied_clears(*told, [("p1", 10 ** 6), ("p2", 10 ** 6)]), [])
            self.assertIs(can_be_clear(*told, [("p1", 10 ** 6), ("p2", 10 ** 6)]), True)

    def test_no_clears(self):
        self.assertEqual(denied_clears(*QUESTION, []), [])
        self.assertIs(can_be_clear(*QUESTION, []), True)

    def test_rows_are_told_as_tuples(self):
        self.assertEqual(denied_clears(*QUESTION, [["p1", 5], ["p1", 4]]), [("p1", 5)])


class SeensTest(unittest.TestCase):
    """Points 31 and 32."""

    def test_around_the_minute_of_the_fastest_fire(self):
        for place, minute in (("p0", 0), ("p1", 2), ("p2", 4)):
            for seen in (minute - 1, minute, minute + 1, minute + 10 ** 6):
                with self.subTest(place=place, seen=seen):
                    denied = seen < minute
                    told = [(place, seen)]
                    self.assertEqual(denied_seens(*QUESTION, told), told if denied else [])
                    self.assertIs(can_be_seen(*QUESTION, told), not denied)

    def test_several_seens(self):
        seens = [("p2", 3), ("p1", 9), ("p1", 1), ("p1", 2), ("p2", 4), ("p1", 1), ("p0", 0)]
        denied = [("p2", 3), ("p1", 1), ("p1", 1)]
        self.assertEqual(denied_seens(*QUESTION, seens), denied)
        self.assertEqual(denied_seens(*QUESTION, seens[::-1]), denied[::-1])
        self.assertIs(can_be_seen(*QUESTION, seens), False)
        self.assertIs(can_be_seen(*QUESTION, [("p1", 2), ("p2", 4), ("p1", 30)]), True)

    def test_a_place_that_does_not_burn_in_the_fastest_fire(self):
        told = (*QUESTION[:3], [("p1", 2)])
        self.assertEqual(denied_seens(*told, [("p1", 10 ** 6), ("p0", 0), ("p2", 9)]), [("p1", 10 ** 6), ("p2", 9)])
        self.assertIs(can_be_seen(*told, [("p0", 0)]), True)
        told = (*QUESTION[:3], [("p1", 3)])
        self.assertEqual(denied_seens(*told, [("p1", 10 ** 6), ("p2", 9)]), [])

    def test_no_seens(self):
        self.assertEqual(denied_seens(*QUESTION, []), [])
        self.assertIs(can_be_seen(*QUESTION, []), True)

    def test_rows_are_told_as_tuples(self):
        self.assertEqual(denied_seens(*QUESTION, [["p1", 1], ["p1", 2]]), [("p1", 1)])


class ContradictionsTest(unittest.TestCase):
    """Point 33."""

    def test_denied_ones_and_no_pairs(self):
        clears, seens = [("p1", 5), ("p2", 2), ("p0", 0)], [("p2", 3), ("p1", 6), ("p2", 4)]
        expected = [("clear", "p1", 5), ("clear", "p0", 0), ("seen", "p2", 3)]
        self.assertEqual(contradictions(*QUESTION, clears, seens), expected)

    def test_pairs_around_the_same_minute(self):
        self.assertEqual(contradictions(*QUESTION, [("p1", 3)], [("p1", 2)]), [("both", "p1", 3, 2)])
        self.assertEqual(contradictions(*QUESTION, [("p1", 3)], [("p1", 3)]), [("both", "p1", 3, 3)])
        self.assertEqual(contradictions(*QUESTION, [("p1", 3)], [("p1", 4)]), [])
        self.assertEqual(contradictions(*QUESTION, [("p1", 3)], [("p2", 4)]), [])

    def test_the_order_of_pairs(self):
        clears = [("p2", 8), ("p1", 4), ("p2", 6), ("p1", 4)]
        seens = [("p1", 4), ("p2", 6), ("p1", 2), ("p2", 5), ("p2", 7), ("p2", 6)]
        self.assertEqual(contradictions(*QUESTION, clears, seens), [
            ("both", "p2", 8, 6), ("both", "p2", 8, 5), ("both", "p2", 8, 7), ("both", "p2", 8, 6),
            ("both", "p1", 4, 4), ("both", "p1", 4, 2),
            ("both", "p2", 6, 6), ("both", "p2", 6, 5), ("both", "p2", 6, 6),
            ("both", "p1", 4, 4), ("both", "p1", 4, 2),
        ])

    def test_denied_ones_stand_in_pairs_too(self):
        expected = [("clear", "p1", 9), ("seen", "p1", 1), ("both", "p1", 9, 1), ("both", "p1", 4, 1)]
        self.assertEqual(contradictions(*QUESTION, [("p1", 9), ("p1", 4)], [("p1", 1)]), expected)

    def test_empty_lists(self):
        self.assertEqual(contradictions(*QUESTION, [], []), [])
        self.assertEqual(contradictions(*QUESTION, [("p1", 5), ("p1", 4)], []), [("clear", "p1", 5)])
        self.assertEqual(contradictions(*QUESTION, [], [("p1", 1), ("p1", 2)]), [("seen", "p1", 1)])

    def test_rows_as_lists(self):
        expected = [("clear", "p1", 5), ("seen", "p1", 1), ("both", "p1", 5, 1)]
        self.assertEqual(contradictions(*QUESTION, [["p1", 5]], [["p1", 1]]), expected)

    def test_an_empty_list_does_not_mean_that_all_can_be_true(self):
        links = [("l0", "a", "b", [(2, 5)]), ("l1", "b", "c", [(1, 1)])]
        told = (Land(winds=["calm"], places=["a", "b", "c"], links=links), CALM, [("a", 0)], [])
        # c burns one minute behind b in every fire, so these two are not true in one fire.
        self.assertEqual(contradictions(*told, [("b", 4)], [("c", 4)]), [])


class ByReferenceTest(unittest.TestCase):
    def test_against_fires_that_are_found_minute_by_minute(self):
        for seed in range(80):
            chance = random.Random(seed)
            told = random_question(chance)
            fast, slow = slow_burning(*told, extreme(told[0], 0)), slow_burning(*told, extreme(told[0], 1))
            clears, seens = random_rows(chance, told[0], 8, 30), random_rows(chance, told[0], 8, 15)
            no_clears = [row for row in clears if burns(slow, *row)]
            no_seens = [row for row in seens if not burns(fast, *row)]
            both = [("both", *clear, by) for clear in clears for place, by in seens if place == clear[0] and by <= clear[1]]
            with self.subTest(seed=seed):
                self.assertEqual(denied_clears(*told, clears), no_clears)
                self.assertEqual(denied_seens(*told, seens), no_seens)
                self.assertIs(can_be_clear(*told, clears), not no_clears)
                self.assertIs(can_be_seen(*told, seens), not no_seens)
                expected = [("clear", *row) for row in no_clears] + [("seen", *row) for row in no_seens] + both
                self.assertEqual(contradictions(*told, clears, seens), expected)

    def test_the_slowest_and_the_fastest_fire_make_all_true(self):
        for seed in range(60):
            chance = random.Random(seed)
            told = random_question(chance)
            clears, seens = random_rows(chance, told[0], 5, 30), random_rows(chance, told[0], 5, 15)
            for _ in range(5):
                rows = burning(*told, random_numbers(chance, told[0]))
                with self.subTest(seed=seed):
                    # What one fire makes true is not denied.
                    self.assertFalse([row for row in denied_clears(*told, clears) if not burns(rows, *row)])
                    self.assertFalse([row for row in denied_seens(*told, seens) if burns(rows, *row)])
            if can_be_clear(*told, clears):
                self.assertFalse([row for row in clears if burns(slowest(*told), *row)])
            if can_be_seen(*told, seens):
                self.assertTrue(all(burns(fastest(*told), *row) for row in seens))


class BoundsTest(unittest.TestCase):
    """Point 36."""

    def test_both_one_and_none(self):
        self.assertEqual(bounds_of(*QUESTION, "p0"), (0, 0))
        self.assertEqual(bounds_of(*QUESTION, "p1"), (2, 5))
        self.assertEqual(bounds_of(*QUESTION, "p2"), (4, 10))
        for stop, expected in ((2, (None, None)), (3, (2, None)), (5, (2, None)), (6, (2, 5))):
            self.assertEqual(bounds_of(*QUESTION[:3], [("p1", stop)], "p1"), expected)
        self.assertEqual(bounds_of(*QUESTION[:3], [("p1", 4)], "p2"), (4, None))

    def test_bounds_are_those_of_both_fires(self):
        for seed in range(40):
            told = random_question(random.Random(seed))
            for (place, fast), (_, slow) in zip(fastest(*told), slowest(*told)):
                self.assertEqual(bounds_of(*told, place), (fast, slow))

    def test_a_large_question(self):
        told = large_question()
        fast, slow = dict(fastest(*told)), dict(slowest(*told))
        clears = [(place, minute) for place in told[0].places for minute in range(0, 100000, 500)]
        self.assertEqual(denied_clears(*told, clears), [row for row in clears if burns(slow, *row)])
        self.assertEqual(denied_seens(*told, clears), [row for row in clears if not burns(fast, *row)])
        for place in told[0].places:
            self.assertEqual(bounds_of(*told, place), (fast[place], slow[place]))


class FurtherBreaksTest(unittest.TestCase):
    """Point 37."""

    def test_more_and_earlier_breaks(self):
        for seed in range(100):
            chance = random.Random(seed)
            land, weather, starts, breaks = random_question(chance)
            clears, seens = random_rows(chance, land, 6, 30), random_rows(chance, land, 6, 15)
            more = [(place, max(0, stop - chance.randint(0, 4))) for place, stop in breaks]
            more += random_rows(chance, land, 2, 12)
            before, after = (land, weather, starts, breaks), (land, weather, starts, more)
            with self.subTest(seed=seed):
                # Nothing is denied anew of the clears, and nothing is allowed again of the seens.
                self.assertLessEqual(set(denied_clears(*after, clears)), set(denied_clears(*before, clears)))
                self.assertGreaterEqual(set(denied_seens(*after, seens)), set(denied_seens(*before, seens)))
                for place in land.places:
                    for old, new in zip(bounds_of(*before, place), bounds_of(*after, place)):
                        self.assertTrue(new is None or (old is not None and old <= new))


class ErrorsTest(unittest.TestCase):
    """Point 38."""

    LAND = QUESTION[0]
    WRONG = [(1, "calm")]
    LISTS = (denied_clears, denied_seens, can_be_clear, can_be_seen)

    def all_raise(self, told, expected):
        with self.subTest(told=told[1:]):
            rows = [("p0", 1), ("x", 2), ("y", 3)]
            for ask in self.LISTS:
                self.assertEqual(raised(ask, *told, rows), expected)
            self.assertEqual(raised(contradictions, *told, rows, [("z", 1)]), expected)
            self.assertEqual(raised(bounds_of, *told, "x"), expected)

    def test_order(self):
        for weather in ([(1, "v"), (0, "w")], [(0, "calm"), (3, "v")], [(0, "calm")] * 40 + [(9, "v")]):
            self.all_raise((self.LAND, weather, [("s", 0)], [("b", 0)]), (UnknownName, "v"))
        for weather in (self.WRONG, CALM, []):
            self.all_raise((self.LAND, weather, [("p0", 0), ("s", 0), ("r", 0)], [("b", 0)]), (UnknownName, "s"))
            self.all_raise((self.LAND, weather, [("p0", 0)], [("p0", 0), ("b", 0), ("c", 0)]), (UnknownName, "b"))
            self.all_raise((self.LAND, weather, [("p0", 0)], [("p0", 0)]), (UnknownName, "x"))

    def test_clears_come_before_seens(self):
        told = (self.LAND, self.WRONG, [], [])
        self.assertEqual(raised(contradictions, *told, [("p0", 1), ("x", 1)], [("y", 1)]), (UnknownName, "x"))
        self.assertEqual(raised(contradictions, *told, [("p0", 1)], [("p1", 3), ("y", 1), ("x", 1)]), (UnknownName, "y"))
        self.assertEqual(raised(contradictions, *told, [("p0", 1)], [("p1", 3)]), InvalidWeather)

    def test_the_weather_comes_last(self):
        for weather in (self.WRONG, [], CALM * 2, [(0, "calm"), (100001, "calm")]):
            told = (self.LAND, weather, [("p0", 0)], [("p1", 3)])
            for ask in self.LISTS:
                self.assertEqual(raised(ask, *told, [("p0", 1)]), InvalidWeather)
                self.assertEqual(raised(ask, *told, []), InvalidWeather)
            self.assertEqual(raised(contradictions, *told, [], []), InvalidWeather)
            self.assertEqual(raised(bounds_of, *told, "p0"), InvalidWeather)

    def test_strange_names(self):
        for name in STRANGE:
            with self.subTest(name=name):
                for ask in self.LISTS:
                    self.assertEqual(raised(ask, *QUESTION, [(name, 1)]), (UnknownName, name))
                self.assertEqual(raised(bounds_of, *QUESTION, name), (UnknownName, name))


class ArgumentsTest(unittest.TestCase):
    """Point 1."""

    def test_arguments_are_not_changed_and_lists_are_new(self):
        rows = [("p1", 9), ("p1", 1), ("p2", 3), ("p2", 12)]
        told = copy.deepcopy((QUESTION[1:], rows))
        for ask, further in ((denied_clears, (rows,)), (denied_seens, (rows,)), (contradictions, (rows, rows))):
            first = ask(*QUESTION, *further)
            expected = list(first)
            self.assertTrue(expected)
            first.clear()
            self.assertEqual(ask(*QUESTION, *further), expected)
        can_be_clear(*QUESTION, rows)
        can_be_seen(*QUESTION, rows)
        bounds_of(*QUESTION, "p1")
        self.assertEqual((QUESTION[1:], rows), told)


if __name__ == "__main__":
    unittest.main()

"""Points 34, 35, 37 and 38: how long a break still helps."""

import copy
import random
import unittest

from everyfire.errors import InvalidWeather, UnknownName
from everyfire.fires import fastest, state_of
from everyfire.keeping import keepers, last_minute, last_minutes
from everyfire.lands import Land
from tests.scenes import STRANGE, large_question, line_land, raised, random_question, random_rows

CALM = [(0, "calm")]
LINE = line_land(4, (2, 5))
# Two ways from a to d, by b and by c, and one from d to e.
ROUND = Land(winds=["calm"], places=["a", "b", "c", "d", "e"], links=[
    ("ab", "a", "b", [(2, 3)]), ("ac", "a", "c", [(4, 4)]), ("bd", "b", "d", [(2, 9)]),
    ("cd", "c", "d", [(3, 3)]), ("de", "d", "e", [(1, 6)]),
])


def helps_until(told, broken, kept, latest=60):
    """Return what `last_minute` has to tell, found by trying all minutes."""
    land, weather, starts, breaks = told
    if dict(fastest(*told))[kept] is None:
        return ("kept",)
    helping = [
        minute for minute in range(latest)
        if dict(fastest(land, weather, starts, [*breaks, (broken, minute)]))[kept] is None
    ]
    return ("until", max(helping)) if helping else ("never",)


class LastMinuteTest(unittest.TestCase):
    """Point 34."""

    def tells(self, expected, told, broken, kept):
        with self.subTest(told=told[1:], broken=broken, kept=kept):
            self.assertEqual(last_minute(*told, broken, kept), expected)

    def test_places_on_the_only_way(self):
        told = (LINE, CALM, [("p0", 3)], [])
        for at, minute in enumerate((3, 5, 7)):
            self.tells(("until", minute), told, f"p{at}", "p2")
        self.tells(("never",), told, "p3", "p2")

    def test_the_broken_place_is_the_kept_one(self):
        told = (LINE, CALM, [("p0", 3)], [("p3", 9)])
        for at, minute in enumerate((3, 5, 7)):
            self.tells(("until", minute), told, f"p{at}", f"p{at}")
        self.tells(("kept",), told, "p3", "p3")

    def test_several_ways(self):
        told = (ROUND, CALM, [("a", 0)], [])
        self.tells(("until", 0), told, "a", "d")
        self.tells(("never",), told, "b", "d")
        self.tells(("never",), told, "c", "d")
        self.tells(("until", 4), told, "d", "d")
        self.tells(("until", 4), told, "d", "e")
        self.tells(("until", 5), told, "e", "e")
        self.tells(("never",), told, "e", "d")
        # With a break at b, the fire comes by c alone, and later.
        told = (ROUND, CALM, [("a", 0)], [("b", 2)])
        self.tells(("until", 4), told, "c", "d")
        self.tells(("until", 7), told, "d", "e")
        self.tells(("never",), told, "b", "d")

    def test_a_second_break_that_only_both_together_would_help(self):
        told = (ROUND, CALM, [("a", 0)], [("d", 6)])
        # Without b the fire comes by c at minute 7, when d is broken.
        self.tells(("until", 2), told, "b", "d")
        self.tells(("until", 2), told, "b", "e")
        self.tells(("never",), told, "c", "d")

    def test_kept_anyway(self):
        for breaks in ([("p2", 4)], [("p1", 2)], [("p0", 0)]):
            told = (LINE, CALM, [("p0", 0)], breaks)
            for place in LINE.places:
                self.tells(("kept",), told, place, "p2")
        self.tells(("kept",), (LINE, CALM, [], []), "p0", "p0")
        self.tells(("kept",), (LINE, CALM, [("p1", 0)], []), "p1", "p0")

    def test_a_place_that_has_a_break_already(self):
        told = (LINE, CALM, [("p0", 0)], [("p2", 5), ("p2", 9)])
        self.tells(("until", 4), told, "p2", "p3")
        self.tells(("until", 4), told, "p2", "p2")
        told = (LINE, CALM, [("p0", 0)], [("p2", 4)])
        self.tells(("kept",), told, "p2", "p3")
        self.tells(("until", 2), told, "p1", "p1")
        self.tells(("never",), told, "p2", "p1")

    def test_a_place_that_does_not_burn(self):
        land = line_land(2, (2, 5)).with_place("far")
        self.tells(("never",), (land, CALM, [("p0", 0)], []), "far", "p1")
        self.tells(("kept",), (land, CALM, [("p0", 0)], []), "p0", "far")

    def test_several_starts(self):
        told = (LINE, CALM, [("p0", 0), ("p2", 20)], [])
        self.tells(("never",), told, "p1", "p3")
        self.tells(("until", 2), told, "p1", "p1")
        # The start at p2 comes later than the fire, which a break there at 4 keeps off, too.
        self.tells(("until", 4), told, "p2", "p3")
        self.tells(("until", 20), (LINE, CALM, [("p2", 30), ("p2", 20)], []), "p2", "p3")

    def test_great_minutes(self):
        land = line_land(3, (5, 9))
        for start in (99990, 99995, 99996, 100000):
            told = (land, CALM, [("p0", start)], [])
            for at in range(3):
                self.tells(("until", start + 5 * at), told, f"p{at}", "p2")

    def test_the_weather_counts(self):
        land = Land(winds=["north", "west"], places=["a", "b"], links=[("l", "a", "b", [None, (2, 2)])])
        told = (land, [(0, "north"), (30, "west")], [("a", 0)], [])
        self.tells(("until", 32), told, "b", "b")
        self.tells(("until", 0), told, "a", "b")
        self.tells(("kept",), (land, [(0, "north")], [("a", 0)], []), "a", "b")

    def test_the_told_minute_and_the_next_one(self):
        for seed in range(60):
            told = random_question(random.Random(seed))
            land, weather, starts, breaks = told
            for kept in land.places:
                for broken, answer in last_minutes(*told, kept):
                    if answer[0] == "until":
                        with self.subTest(seed=seed, kept=kept, broken=broken):
                            for minute in {0, answer[1] // 2, answer[1]}:
                                further = [*breaks, (broken, minute)]
                                self.assertEqual(state_of(land, weather, starts, further, kept), "never")
                            for minute in (answer[1] + 1, answer[1] + 50):
                                further = [*breaks, (broken, minute)]
                                self.assertNotEqual(state_of(land, weather, starts, further, kept), "never")

    def test_against_trying_all_minutes(self):
        words = []
        for seed in range(25):
            told = random_question(random.Random(seed), places=5, links=7)
            for broken in told[0].places:
                for kept in told[0].places:
                    expected = helps_until(told, broken, kept)
                    words.append(expected[0])
                    with self.subTest(seed=seed, broken=broken, kept=kept):
                        self.assertEqual(last_minute(*told, broken, kept), expected)
        self.assertTrue(all(words.count(word) > 10 for word in ("kept", "never", "until")))


class ListsTest(unittest.TestCase):
    """Point 35."""

    def test_all_places_in_order(self):
        told = (ROUND, CALM, [("a", 0)], [("b", 2)])
        expected = [("a", ("until", 0)), ("b", ("never",)), ("c", ("until", 4)), ("d", ("until", 7)), ("e", ("never",))]
        self.assertEqual(last_minutes(*told, "d"), expected)
        self.assertEqual(last_minutes(*told, "b"), [(place, ("kept",)) for place in ROUND.places])

    def test_keepers_with_the_greatest_minute_first(self):
        self.assertEqual(keepers(LINE, CALM, [("p0", 3)], [], "p3"), [("p3", 9), ("p2", 7), ("p1", 5), ("p0", 3)])
        self.assertEqual(keepers(LINE, CALM, [("p0", 3)], [], "p1"), [("p1", 5), ("p0", 3)])
        self.assertEqual(keepers(ROUND, CALM, [("a", 0)], [], "e"), [("e", 5), ("d", 4), ("a", 0)])
        self.assertEqual(keepers(ROUND, CALM, [("a", 0)], [("b", 0)], "e"), [("e", 8), ("d", 7), ("c", 4), ("a", 0)])

    def test_the_order_is_not_that_of_the_land(self):
        links = [("yz", "y", "z", [(1, 1)]), ("zx", "z", "x", [(1, 1)])]
        land = Land(winds=["calm"], places=["z", "x", "y"], links=links)
        told = (land, CALM, [("y", 100000)], [])
        self.assertEqual(keepers(*told, "x"), [("x", 100002), ("z", 100001), ("y", 100000)])
        expected = [("z", ("until", 100001)), ("x", ("until", 100002)), ("y", ("until", 100000))]
        self.assertEqual(last_minutes(*told, "x"), expected)

    def test_no_keepers(self):
        self.assertEqual(keepers(LINE, CALM, [], [], "p1"), [])
        self.assertEqual(keepers(LINE, CALM, [("p0", 0)], [("p1", 2)], "p2"), [])
        self.assertEqual(keepers(LINE, CALM, [("p1", 0)], [], "p0"), [])

    def test_each_list_tells_what_last_minute_tells(self):
        for seed in range(60):
            told = random_question(random.Random(seed))
            for kept in told[0].places:
                rows = [(place, last_minute(*told, place, kept)) for place in told[0].places]
                found = [(place, row[1]) for place, row in rows if row[0] == "until"]
                with self.subTest(seed=seed, kept=kept):
                    self.assertEqual(last_minutes(*told, kept), rows)
                    made = keepers(*told, kept)
                    self.assertEqual(sorted(made), sorted(found))
                    minutes = [minute for _, minute in made]
                    # No two of them are the same, so the order is told by the minutes alone.
                    self.assertEqual(minutes, sorted(set(minutes), reverse=True))

    def test_a_large_question(self):
        for told in (large_question(), large_question(step=7)):
            for kept in told[0].places:
                self.assertEqual([place for place, _ in last_minutes(*told, kept)], list(told[0].places))
                self.assertEqual(len(keepers(*told, kept)) > 0, dict(fastest(*told))[kept] is not None)
        told = (line_land(24, (1000, 1000)), CALM, [("p0", 100000)], [])
        expected = [(f"p{at}", 100000 + 1000 * at) for at in range(23, -1, -1)]
        self.assertEqual(keepers(*told, "p23"), expected)


class FurtherBreaksTest(unittest.TestCase):
    """Point 37: more breaks keep at least what was kept."""

    def test_more_breaks(self):
        for seed in range(40):
            chance = random.Random(seed)
            land, weather, starts, breaks = random_question(chance)
            more = [*breaks, *random_rows(chance, land, 2, 12)]
            for kept in land.places:
                before = last_minutes(land, weather, starts, breaks, kept)
                after = last_minutes(land, weather, starts, more, kept)
                for (place, old), (_, new) in zip(before, after):
                    with self.subTest(seed=seed, kept=kept, place=place):
                        if old[0] == "kept":
                            self.assertEqual(new, ("kept",))
                        if old[0] == "until" and new[0] != "kept":
                            self.assertEqual(new[0], "until")
                            self.assertGreaterEqual(new[1], old[1])


class ErrorsTest(unittest.TestCase):
    """Point 38."""

    def all_raise(self, expected, *told):
        with self.subTest(told=told):
            self.assertEqual(raised(last_minute, LINE, *told), expected)
            if told[-2] in LINE.places:
                for ask in (last_minutes, keepers):
                    self.assertEqual(raised(ask, LINE, *told[:-2], told[-1]), expected)

    def test_order(self):
        for weather in ([(1, "v"), (0, "w")], [(0, "calm"), (0, "v")]):
            self.all_raise((UnknownName, "v"), weather, [("s", 0)], [("b", 0)], "x", "y")
            self.all_raise((UnknownName, "v"), weather, [("s", 0)], [("b", 0)], "p0", "y")
        for weather in ([(1, "calm")], [], CALM):
            for broken in ("x", "p0"):
                self.all_raise((UnknownName, "s"), weather, [("p0", 0), ("s", 0), ("r", 0)], [("b", 0)], broken, "y")
                self.all_raise((UnknownName, "b"), weather, [("p0", 0)], [("b", 0), ("c", 0)], broken, "y")
            self.all_raise((UnknownName, "x"), weather, [("p0", 0)], [], "x", "y")
            self.all_raise((UnknownName, "x"), weather, [("p0", 0)], [], "x", "p0")
            self.all_raise((UnknownName, "y"), weather, [("p0", 0)], [], "p0", "y")
        for weather in ([(1, "calm")], [], [(0, "calm"), (0, "calm")], [(0, "calm"), (100001, "calm")]):
            self.all_raise(InvalidWeather, weather, [("p0", 0)], [], "p0", "p1")

    def test_strange_names(self):
        for name in STRANGE:
            self.all_raise((UnknownName, name), CALM, [], [], "p0", name)
            self.all_raise((UnknownName, name), CALM, [], [], name, "p0")
            self.all_raise((UnknownName, name), CALM, [(name, 0)], [], "p0", "p1")
            self.all_raise((UnknownName, name), CALM, [], [("p0", 0), (name, 0)], "p0", "p1")


class ArgumentsTest(unittest.TestCase):
    """Point 1."""

    def test_arguments_are_not_changed_and_lists_are_new(self):
        told = (LINE, [(0, "calm")], [("p0", 3)], [("p3", 30)])
        before = copy.deepcopy(told[1:])
        last_minute(*told, "p1", "p2")
        for ask in (last_minutes, keepers):
            first = ask(*told, "p2")
            expected = list(first)
            first.clear()
            self.assertEqual(ask(*told, "p2"), expected)
        self.assertEqual(told[1:], before)


if __name__ == "__main__":
    unittest.main()

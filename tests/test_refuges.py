"""Points 88 to 95: refuges."""

import copy
import random
import time
import unittest

from everyfire.errors import InvalidQuestion, InvalidWeather, UnknownName
from everyfire.fires import burning, fastest
from everyfire.lands import Land
from everyfire.refuges import is_safe_walk, last_departure, refuges, safe_walk
from tests.scenes import (
    STRANGE, large_paths, large_question, raised, random_numbers, random_paths, spread_question,
)

CALM = [(0, "calm")]
PLACES = "abcdef"


def burning_land(*paths, places=PLACES):
    """Return a land without links, where each place burns by its own start or not at all."""
    return Land(winds=["calm"], places=list(places), paths=paths)


# A line of paths from a to d; no path leads to f.
LINE = burning_land(("a", "b", 2), ("c", "b", 3), ("c", "d", 4))


def starts_of(**minutes):
    return list(minutes.items())


def slow_goals(land, burns, place, minute, until=120):
    """Return a dict of the least minute of each refuge that a safe walk comes to, by trying each minute and each wait."""
    def is_clear(name, now):
        return burns[name] is None or now < burns[name]

    reached = {(place, minute)} if is_clear(place, minute) else set()
    for now in range(minute, until):
        for here in land.places:
            if (here, now) in reached:
                if is_clear(here, now + 1):
                    reached.add((here, now + 1))
                for other, minutes in land.walks_from(here):
                    if is_clear(other, now + minutes):
                        reached.add((other, now + minutes))
    goals = {}
    for name, now in sorted(reached, key=lambda row: row[1]):
        if burns[name] is None and name not in goals:
            goals[name] = now
    return goals


def random_scene(chance):
    """Return a question, with paths in the land."""
    land, weather, starts, breaks = spread_question(chance, breaks=6)
    starts = [*starts, (chance.choice(land.places), chance.randint(0, 20))]
    return random_paths(chance, land, paths=6, longest=3), weather, starts, breaks


class IsSafeWalkTest(unittest.TestCase):
    """Points 88, 89 and 94."""

    def holds(self, expected, starts, rows, land=LINE):
        with self.subTest(starts=starts, rows=rows):
            self.assertIs(is_safe_walk(land, CALM, starts, [], rows), expected)

    def test_walks_of_no_tuple_and_of_one(self):
        self.holds(False, [], [])
        self.holds(True, [], [("a", 0)])
        self.holds(True, [], [("f", 999999)])
        self.holds(True, starts_of(b=0), [("a", 0)])
        for minute in (0, 5, 6, 7):
            self.holds(False, starts_of(a=6), [("a", minute)])

    def test_minutes_below_0(self):
        self.holds(False, [], [("a", -1)])
        self.holds(False, [], [("a", -1), ("b", 1)])
        self.holds(False, [], [("a", -2), ("b", 0)])
        self.holds(False, [], [("a", 0), ("b", 2), ("a", -1)])
        self.holds(True, [], [("a", 0), ("b", 2)])

    def test_paths(self):
        self.holds(True, [], [("a", 0), ("b", 2), ("c", 5), ("d", 9)])
        self.holds(True, [], [("d", 0), ("c", 4), ("b", 7), ("a", 9)])
        self.holds(False, [], [("a", 0), ("c", 5)])
        self.holds(False, [], [("a", 0), ("f", 100)])
        self.holds(False, [], [("a", 0), ("b", 2), ("a", 4), ("d", 50)])
        # No path leads from a place to itself.
        self.holds(False, [], [("a", 0), ("a", 1)])
        self.holds(False, [], [("a", 0), ("a", 0)])

    def test_a_place_that_is_left_before_it_is_come_to(self):
        self.holds(True, [], [("a", 5), ("b", 7)])
        self.holds(False, [], [("a", 5), ("b", 6)])
        self.holds(False, [], [("a", 5), ("b", 4)])
        self.holds(True, [], [("a", 5), ("b", 50)])
        self.holds(True, [], [("a", 5), ("b", 7), ("c", 10)])
        self.holds(False, [], [("a", 5), ("b", 7), ("c", 9)])

    def test_a_place_that_begins_to_burn_around_the_minute_of_coming(self):
        rows = [("a", 0), ("b", 2), ("c", 5)]
        for minute, expected in ((0, False), (1, False), (2, False), (3, True), (4, True)):
            self.holds(expected, starts_of(b=minute), rows)
        for minute, expected in ((0, False), (1, True)):
            self.holds(expected, starts_of(a=minute), rows)
        rows = [("a", 7), ("b", 9)]
        for minute, expected in ((6, False), (7, False), (8, True)):
            self.holds(expected, starts_of(a=minute), rows)

    def test_a_place_that_begins_to_burn_around_the_minute_of_leaving(self):
        # They wait at b from 2 to 7, and leave a at 3 in the second walk.
        for minute, expected in ((2, False), (3, False), (6, False), (7, False), (8, True), (9, True)):
            self.holds(expected, starts_of(b=minute), [("a", 0), ("b", 2), ("c", 10)])
        for minute, expected in ((2, False), (3, False), (4, True)):
            self.holds(expected, starts_of(a=minute), [("a", 0), ("b", 5), ("c", 8)])

    def test_the_last_place_never_burns(self):
        for minute in (0, 5, 6, 100000):
            self.holds(False, starts_of(c=minute), [("a", 0), ("b", 2), ("c", 5)])
        land = Land(winds=["calm"], places=["a", "b"], links=[("l", "a", "b", [(900, 1000)])], paths=[("a", "b", 2)])
        self.holds(False, starts_of(a=99000), [("a", 0), ("b", 2)], land)
        self.holds(True, starts_of(b=99000), [("b", 0), ("a", 2)], land)

    def test_a_place_on_the_way_may_be_one_that_never_burns(self):
        self.holds(True, starts_of(a=1), [("a", 0), ("b", 2), ("c", 5)])

    def test_a_walk_that_comes_back_to_a_place(self):
        rows = [("a", 0), ("b", 2), ("a", 4), ("b", 6), ("c", 9)]
        self.holds(True, [], rows)
        for minute, expected in ((4, False), (5, True), (6, True)):
            self.holds(expected, starts_of(a=minute), rows)
        for minute, expected in ((3, False), (6, False), (7, True)):
            self.holds(expected, starts_of(b=minute), rows)
        self.holds(False, starts_of(a=100), [("a", 0), ("b", 2), ("a", 4)])

    def test_only_the_fastest_fire_counts(self):
        # The fastest fire comes to b at 3, the slowest one at 9.
        land = Land(
            winds=["calm"], places=["a", "b", "c"], links=[("l", "a", "b", [(3, 9)])], paths=[("b", "c", 4), ("a", "b", 1)],
        )
        for minute, expected in ((0, True), (2, True), (3, False), (5, False), (8, False)):
            self.holds(expected, starts_of(a=0), [("b", minute), ("c", minute + 4)], land)

    def test_breaks_and_the_weather_count(self):
        links = [("l", "a", "b", [None, (3, 3)])]
        land = Land(winds=["calm", "west"], places=["a", "b"], links=links, paths=[("a", "b", 2)])
        rows = [("b", 0)]
        self.assertTrue(is_safe_walk(land, CALM, [("a", 0)], [], rows))
        self.assertFalse(is_safe_walk(land, [(0, "calm"), (50, "west")], [("a", 0)], [], rows))
        self.assertFalse(is_safe_walk(land, [(0, "calm"), (50, "west")], [("a", 0)], [("b", 54)], rows))
        self.assertTrue(is_safe_walk(land, [(0, "calm"), (50, "west")], [("a", 0)], [("b", 53)], rows))

    def test_no_fire_meets_whoever_goes_a_safe_walk(self):
        many = 0
        for seed in range(80):
            chance = random.Random(seed)
            told = random_scene(chance)
            land = told[0]
            for place in land.places:
                rows = safe_walk(*told, place, 0)
                many += rows is not None and len(rows) > 1
                for _ in range(3):
                    burns = dict(burning(*told, random_numbers(chance, land)))
                    for (here, since), behind in zip(rows or [], [*(rows or [])[1:], None]):
                        until = 100000 if behind is None else behind[1] - land.minutes_between(here, behind[0])
                        self.assertTrue(burns[here] is None or max(since, until) < burns[here])
        self.assertGreater(many, 20)


class SafeWalkTest(unittest.TestCase):
    """Points 90 and 91."""

    def walks(self, expected, starts, place, minute, land=LINE):
        with self.subTest(starts=starts, place=place, minute=minute):
            found = safe_walk(land, CALM, starts, [], place, minute)
            self.assertEqual(found, expected)
            if found is not None:
                self.assertTrue(is_safe_walk(land, CALM, starts, [], found))

    def test_a_place_that_never_burns(self):
        self.walks([("a", 0)], [], "a", 0)
        self.walks([("f", 999999)], starts_of(a=0), "f", 999999)
        self.walks([("b", 3)], starts_of(a=0, c=0), "b", 3)

    def test_to_the_next_place(self):
        self.walks([("a", 0), ("b", 2)], starts_of(a=5), "a", 0)
        self.walks([("a", 4), ("b", 6)], starts_of(a=5), "a", 4)
        self.walks(None, starts_of(a=5), "a", 5)
        self.walks(None, starts_of(a=5), "a", 6)
        self.walks(None, starts_of(a=0), "a", 0)

    def test_over_places_that_burn_later(self):
        self.walks([("a", 0), ("b", 2), ("c", 5)], starts_of(a=1, b=3), "a", 0)
        self.walks(None, starts_of(a=1, b=2), "a", 0)
        self.walks([("a", 3), ("b", 5), ("c", 8), ("d", 12)], starts_of(a=4, b=6, c=9), "a", 3)
        self.walks(None, starts_of(a=4, b=6, c=8), "a", 3)
        self.walks(None, starts_of(a=4, b=5, c=9), "a", 3)
        self.walks(None, starts_of(a=4, b=60, c=90, d=1000), "a", 3)

    def test_as_early_as_possible(self):
        land = burning_land(("a", "b", 9), ("a", "c", 4), ("c", "d", 4), ("d", "b", 4))
        self.walks([("a", 1), ("c", 5)], starts_of(a=50), "a", 1, land)
        self.walks([("a", 1), ("c", 5), ("d", 9)], starts_of(a=50, c=50), "a", 1, land)
        self.walks([("a", 1), ("b", 10)], starts_of(a=50, c=50, d=50), "a", 1, land)
        self.walks([("a", 1), ("b", 10)], starts_of(a=50, c=5), "a", 1, land)
        # The walk by c and d to b is longer, though each step of it is short.
        land = burning_land(("a", "b", 13), ("a", "c", 4), ("c", "d", 4), ("d", "b", 4))
        self.walks([("a", 1), ("c", 5), ("d", 9), ("b", 13)], starts_of(a=50, c=50, d=50), "a", 1, land)
        self.walks([("a", 1), ("b", 14)], starts_of(a=50, c=5, d=50), "a", 1, land)
        self.walks([("a", 1), ("b", 14)], starts_of(a=50, c=50, d=9), "a", 1, land)

    def test_several_places_at_the_same_minute(self):
        paths = [("s", "z", 3), ("s", "a", 3), ("s", "m", 3), ("s", "b", 2), ("b", "c", 1)]
        for places in (["s", "z", "a", "m", "b", "c"], ["c", "b", "m", "a", "z", "s"], ["b", "m", "s", "c", "a", "z"]):
            land = burning_land(*paths, places=places)
            first = [place for place in places if place in "zamc"][0]
            expected = [("s", 0), ("b", 2), ("c", 3)] if first == "c" else [("s", 0), (first, 3)]
            self.walks(expected, starts_of(s=9, b=9), "s", 0, land)

    def test_against_all_walks(self):
        lengths = []
        for seed in range(60):
            chance = random.Random(seed)
            told = random_scene(chance)
            land = told[0]
            burns = dict(fastest(*told))
            for place in land.places:
                for minute in (0, 1, 3, 7):
                    goals = slow_goals(land, burns, place, minute)
                    found = safe_walk(*told, place, minute)
                    lengths.append(0 if found is None else len(found))
                    with self.subTest(seed=seed, place=place, minute=minute):
                        if not goals:
                            self.assertIsNone(found)
                            continue
                        best = [name for name in land.places if goals.get(name) == min(goals.values())][0]
                        self.assertEqual(found[0], (place, minute))
                        self.assertEqual(found[-1], (best, goals[best]))
                        self.assertTrue(is_safe_walk(*told, found))
                        for before, behind in zip(found, found[1:]):
                            self.assertEqual(behind[1] - before[1], land.minutes_between(before[0], behind[0]))
        self.assertTrue(all(lengths.count(many) > 10 for many in (0, 1, 2, 3)))

    def test_earlier_is_never_worse(self):
        for seed in range(40):
            told = random_scene(random.Random(seed))
            for place in told[0].places:
                found = [safe_walk(*told, place, minute) is not None for minute in range(30)]
                self.assertEqual(found, sorted(found, reverse=True))


class LastDepartureTest(unittest.TestCase):
    """Point 92."""

    def tells(self, expected, starts, place, land=LINE):
        with self.subTest(starts=starts, place=place):
            self.assertEqual(last_departure(land, CALM, starts, [], place), expected)
            if expected[0] == "until":
                self.assertIsNotNone(safe_walk(land, CALM, starts, [], place, expected[1]))
                self.assertIsNone(safe_walk(land, CALM, starts, [], place, expected[1] + 1))

    def test_always(self):
        self.tells(("always",), [], "a")
        self.tells(("always",), starts_of(b=0), "a")

    def test_until(self):
        self.tells(("until", 4), starts_of(a=5), "a")
        self.tells(("until", 0), starts_of(a=1), "a")
        self.tells(("until", 3), starts_of(a=50, b=6), "a")
        self.tells(("until", 3), starts_of(a=4, b=6), "a")
        self.tells(("until", 2), starts_of(a=3, b=6), "a")
        self.tells(("until", 7), starts_of(a=50, b=60, c=13), "a")
        self.tells(("until", 99999), starts_of(a=100000), "a")
        self.tells(("until", 999998), starts_of(a=999999), "a")

    def test_never(self):
        self.tells(("never",), starts_of(a=0), "a")
        self.tells(("never",), starts_of(f=100), "f")
        self.tells(("never",), starts_of(a=50, b=2), "a")
        self.tells(("until", 0), starts_of(a=50, b=3), "a")
        self.tells(("never",), starts_of(a=9, b=9, c=9, d=9), "b")
        self.tells(("never",), starts_of(a=1, b=2), "a")

    def test_against_each_minute(self):
        words = []
        for seed in range(60):
            told = random_scene(random.Random(seed))
            burns = dict(fastest(*told))
            for place in told[0].places:
                good = [minute for minute in range(100) if safe_walk(*told, place, minute) is not None]
                expected = ("until", max(good)) if good else ("never",)
                if burns[place] is None:
                    expected = ("always",)
                words.append(expected[0])
                with self.subTest(seed=seed, place=place):
                    self.assertEqual(last_departure(*told, place), expected)
        self.assertTrue(all(words.count(word) > 10 for word in ("always", "until", "never")))


class RefugesTest(unittest.TestCase):
    """Point 93."""

    def test_places_in_the_order_of_the_land(self):
        told = (LINE, CALM, starts_of(a=5, b=9, f=3), [])
        for minute, expected in (
            (0, "abcde"), (4, "abcde"), (5, "bcde"), (8, "bcde"), (9, "cde"), (100000, "cde"),
        ):
            with self.subTest(minute=minute):
                self.assertEqual(refuges(*told, minute), list(expected))
        land = burning_land(("a", "z", 1), places=["z", "a", "m"])
        self.assertEqual(refuges(land, CALM, starts_of(a=5), [], 0), ["z", "a", "m"])

    def test_no_refuge(self):
        self.assertEqual(refuges(LINE, CALM, [(place, 9) for place in PLACES], [], 0), [])

    def test_the_places_where_a_safe_walk_can_begin(self):
        for seed in range(40):
            told = random_scene(random.Random(seed))
            for minute in (0, 2, 5, 9):
                expected = [place for place in told[0].places if safe_walk(*told, place, minute) is not None]
                with self.subTest(seed=seed, minute=minute):
                    self.assertEqual(refuges(*told, minute), expected)


class ErrorsTest(unittest.TestCase):
    """Point 95."""

    def test_the_order_of_the_errors(self):
        told = [
            (([(0, "storm"), (0, "gale")], [("x1", 0)], [("x2", 0)]), (UnknownName, "storm")),
            (([], [("a", 0), ("x1", 0)], [("x2", 0)]), (UnknownName, "x1")), (([], [], [("x2", 0)]), (UnknownName, "x2")),
        ]
        for arguments, error in told:
            with self.subTest(arguments=arguments):
                self.assertEqual(raised(safe_walk, LINE, *arguments, "x3", -1), error)
                self.assertEqual(raised(is_safe_walk, LINE, *arguments, [("x3", -1)]), error)
                self.assertEqual(raised(last_departure, LINE, *arguments, "x3"), error)
                self.assertEqual(raised(refuges, LINE, *arguments, -1), error)
        for weather in ([], [(1, "calm")]):
            told = (LINE, weather, [("a", 0)], [])
            self.assertEqual(raised(safe_walk, *told, "x3", -1), (UnknownName, "x3"))
            self.assertEqual(raised(is_safe_walk, *told, [("a", -1), ("x3", 0), ("x4", 0)]), (UnknownName, "x3"))
            self.assertEqual(raised(last_departure, *told, "x3"), (UnknownName, "x3"))
            self.assertEqual(raised(safe_walk, *told, "a", -1), InvalidWeather)
            self.assertEqual(raised(is_safe_walk, *told, []), InvalidWeather)
            self.assertEqual(raised(is_safe_walk, *told, [("a", -1)]), InvalidWeather)
            self.assertEqual(raised(last_departure, *told, "a"), InvalidWeather)
            self.assertEqual(raised(refuges, *told, -1), InvalidWeather)

    def test_minutes_below_0(self):
        for minute in (-1, -1000):
            self.assertEqual(raised(safe_walk, LINE, CALM, [], [], "a", minute), InvalidQuestion)
            self.assertEqual(raised(safe_walk, LINE, CALM, [("a", 0)], [], "a", minute), InvalidQuestion)
            self.assertEqual(raised(refuges, LINE, CALM, [], [], minute), InvalidQuestion)
            self.assertIsNone(raised(is_safe_walk, LINE, CALM, [], [], [("a", minute)]))

    def test_strange_places(self):
        for name in STRANGE:
            self.assertEqual(raised(safe_walk, LINE, CALM, [], [], name, 0), (UnknownName, name))
            self.assertEqual(raised(last_departure, LINE, CALM, [], [], name), (UnknownName, name))
            # Also in a walk that is not safe anyway.
            for rows in ([(name, 0)], [("a", 0), (name, 1)], [("a", -1), ("c", 0), (name, 0)], [("a", 0), (name, 2), ("x4", 0)]):
                self.assertEqual(raised(is_safe_walk, LINE, CALM, [("a", 0)], [], rows), (UnknownName, name))


class WholeTest(unittest.TestCase):
    def test_large_questions(self):
        land, weather, starts, breaks = large_question(longest=1000, step=500)
        land = large_paths(land)
        begin = time.perf_counter()
        for place in land.places:
            last_departure(land, weather, starts, breaks, place)
            safe_walk(land, weather, starts, breaks, place, 0)
        for minute in (0, 100, 1000):
            refuges(land, weather, starts, breaks, minute)
        self.assertLess(time.perf_counter() - begin, 5)

    def test_nothing_is_modified(self):
        told = ([(0, "calm")], [("a", 5)], [("b", 9)], [("a", 0), ("b", 2)])
        before = copy.deepcopy(told)
        safe_walk(LINE, *told[:3], "a", 0)
        is_safe_walk(LINE, *told)
        last_departure(LINE, *told[:3], "a")
        refuges(LINE, *told[:3], 0)
        self.assertEqual(told, before)


if __name__ == "__main__":
    unittest.main()

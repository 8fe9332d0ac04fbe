"""Points 78 to 87: any weather and every weather, forecasts, and how much burns."""

import copy
import itertools
import random
import time
import unittest

from everyfire.errors import InvalidQuestion, InvalidWeather, UnknownName
from everyfire.fires import burning, fastest, slowest, states
from everyfire.forecasts import any_weather, burnt, every_weather, first_danger, forecast, growth
from everyfire.lands import Land
from tests.scenes import (
    STRANGE, extreme, large_question, line_land, raised, random_land, random_numbers, random_rows, random_weather,
    slow_burning, spread_question,
)

CALM = [(0, "calm")]
LINE = line_land(4, (2, 5))
START = [("p0", 0)]


def two_winds(*links, places="abcd"):
    return Land(winds=["north", "west"], places=list(places), links=links)


# From a to b in each wind, from b to c in the west wind alone, from c to d in the north wind alone.
TURNS = two_winds(
    ("ab", "a", "b", [(4, 9), (6, 7)]), ("bc", "b", "c", [None, (2, 3)]), ("cd", "c", "d", [(1, 1), None]),
)
NORTH = [(0, "north")]
WEST = [(0, "west")]


class AnyWeatherTest(unittest.TestCase):
    """Point 78."""

    def test_the_wind_turns_at_each_link(self):
        self.assertEqual(any_weather(TURNS, [("a", 1)], []), [("a", 1), ("b", 5), ("c", 7), ("d", 8)])
        # A weather in which one fire does so.
        weather = [(0, "north"), (5, "west"), (7, "north")]
        self.assertEqual(burning(TURNS, weather, [("a", 1)], [], extreme(TURNS, 0))[3], ("d", 8))

    def test_the_least_number_over_the_winds(self):
        for times, minute in (
            ([(5, 5), (3, 900)], 3), ([(3, 900), (5, 5)], 3), ([None, (8, 9)], 8), ([(8, 9), None], 8), ([(4, 4), (4, 4)], 4),
        ):
            land = two_winds(("l", "a", "b", times))
            self.assertEqual(any_weather(land, [("a", 10)], [])[1], ("b", 10 + minute))

    def test_links_that_are_shut_in_every_wind(self):
        land = two_winds(("l", "a", "b", [None, None]), ("m", "b", "c", [(1, 1), (1, 1)]))
        self.assertEqual(any_weather(land, [("a", 0)], []), [("a", 0), ("b", None), ("c", None), ("d", None)])

    def test_no_starts(self):
        self.assertEqual(any_weather(TURNS, [], [("a", 3)]), [(place, None) for place in "abcd"])

    def test_late_starts(self):
        for minute in (99999, 100000, 999999):
            expected = [("a", minute), ("b", minute + 4), ("c", minute + 6), ("d", minute + 7)]
            self.assertEqual(any_weather(TURNS, [("a", minute)], []), expected)

    def test_breaks(self):
        for minute, expected in ((0, None), (6, None), (7, None), (8, 7), (100, 7)):
            with self.subTest(minute=minute):
                self.assertEqual(any_weather(TURNS, [("a", 1)], [("c", minute)])[2], ("c", expected))
                last = None if expected is None else 8
                self.assertEqual(any_weather(TURNS, [("a", 1)], [("c", minute)])[3], ("d", last))
        self.assertEqual(any_weather(TURNS, [("a", 1)], [("a", 1), ("a", 50)]), [(place, None) for place in "abcd"])

    def test_several_starts(self):
        expected = [("a", 1), ("b", 3), ("c", 5), ("d", 6)]
        self.assertEqual(any_weather(TURNS, [("a", 9), ("b", 3), ("a", 1), ("d", 40)], []), expected)

    def test_another_first_wind(self):
        land = Land(winds=["west", "north"], places=["a", "b"], links=[("l", "a", "b", [None, (3, 4)])])
        self.assertEqual(any_weather(land, [("a", 0)], []), [("a", 0), ("b", 3)])

    def test_against_all_weathers(self):
        # Each weather that turns within the first minutes, and the fastest fire in it.
        for seed in range(12):
            chance = random.Random(seed)
            land = random_land(chance, places=5, links=8, longest=2)
            starts, breaks = random_rows(chance, land, 2, 3), random_rows(chance, land, 1, 9)
            least = {place: None for place in land.places}
            for winds in itertools.product(land.winds, repeat=9):
                weather = list(enumerate(winds))
                for place, minute in fastest(land, weather, starts, breaks):
                    if minute is not None and (least[place] is None or minute < least[place]):
                        least[place] = minute
            with self.subTest(seed=seed):
                self.assertEqual(any_weather(land, starts, breaks), list(least.items()))

    def test_errors(self):
        for name in STRANGE:
            self.assertEqual(raised(any_weather, LINE, [("p0", 0), (name, 0)], [("x2", 0)]), (UnknownName, name))
            self.assertEqual(raised(any_weather, LINE, [], [("p0", 0), (name, 0)]), (UnknownName, name))


class EveryWeatherTest(unittest.TestCase):
    """Point 79."""

    def test_places_with_fewer_winds(self):
        self.assertEqual(every_weather(TURNS, [("a", 1)]), ["a", "b"])
        self.assertEqual(every_weather(TURNS, [("c", 1)]), ["c"])
        self.assertEqual(every_weather(TURNS, [("a", 1), ("d", 5)]), ["a", "b", "d"])

    def test_no_starts_and_no_links(self):
        self.assertEqual(every_weather(TURNS, []), [])
        self.assertEqual(every_weather(two_winds(), [("d", 100000), ("b", 0)]), ["b", "d"])

    def test_another_way_in_each_wind(self):
        land = two_winds(
            ("ab", "a", "b", [(1, 1), None]), ("bd", "b", "d", [(1, 1), None]), ("ac", "a", "c", [None, (900, 1000)]),
            ("cd", "c", "d", [None, (1, 1)]),
        )
        self.assertEqual(every_weather(land, [("a", 0)]), ["a", "d"])
        self.assertEqual(every_weather(land.without_link("cd"), [("a", 0)]), ["a"])
        # From b in one wind, from c in the other one.
        self.assertEqual(every_weather(land, [("b", 0), ("c", 0)]), ["b", "c", "d"])
        self.assertEqual(every_weather(land, [("b", 0)]), ["b"])

    def test_ways_that_need_a_turn_do_not_count(self):
        land = two_winds(("ab", "a", "b", [(1, 1), (1, 1)]), ("bc", "b", "c", [(1, 1), None]), ("ac", "a", "c", [None, (1, 1)]))
        self.assertEqual(every_weather(land, [("a", 0)]), ["a", "b", "c"])
        land = two_winds(("ab", "a", "b", [None, (1, 1)]), ("bc", "b", "c", [(1, 1), (1, 1)]), ("ac", "a", "c", [None, (1, 1)]))
        self.assertEqual(every_weather(land, [("a", 0)]), ["a"])

    def test_one_wind_alone(self):
        self.assertEqual(every_weather(LINE, START), ["p0", "p1", "p2", "p3"])
        self.assertEqual(every_weather(LINE, [("p2", 7)]), ["p2", "p3"])

    def test_against_some_weathers(self):
        found = 0
        for seed in range(60):
            chance = random.Random(seed)
            land = random_land(chance, links=14, winds=3)
            starts = random_rows(chance, land, 2, 9)
            weathers = [[(0, wind)] for wind in land.winds] + [random_weather(chance, land, rows=8) for _ in range(10)]
            slow = [dict(slowest(land, weather, starts, [])) for weather in weathers]
            expected = [place for place in land.places if all(rows[place] is not None for rows in slow)]
            found += len(expected)
            with self.subTest(seed=seed):
                self.assertEqual(every_weather(land, starts), expected)
        self.assertGreater(found, 60)

    def test_errors(self):
        for name in STRANGE:
            self.assertEqual(raised(every_weather, LINE, [("p0", 0), (name, 0), ("x2", 0)]), (UnknownName, name))


class ForecastTest(unittest.TestCase):
    """Points 80 and 86."""

    def test_one_weather(self):
        for seed in range(40):
            land, weather, starts, breaks = spread_question(random.Random(seed))
            with self.subTest(seed=seed):
                expected = states(land, weather, starts, breaks)
                self.assertEqual(forecast(land, [weather], starts, breaks), expected)
                self.assertEqual(forecast(land, [weather, weather], starts, breaks), expected)

    def test_several_weathers(self):
        told = ([("a", 1)], [])
        expected = [("a", "surely"), ("b", "surely"), ("c", "never"), ("d", "never")]
        self.assertEqual(forecast(TURNS, [NORTH], *told), expected)
        expected = [("a", "surely"), ("b", "surely"), ("c", "maybe"), ("d", "never")]
        self.assertEqual(forecast(TURNS, [NORTH, WEST], *told), expected)
        turning = [(0, "west"), (20, "north")]
        expected = [("a", "surely"), ("b", "surely"), ("c", "maybe"), ("d", "maybe")]
        self.assertEqual(forecast(TURNS, [NORTH, WEST, turning], *told), expected)
        self.assertEqual(forecast(TURNS, [turning], *told), [(place, "surely") for place in "abcd"])

    def test_surely_in_one_weather_and_maybe_in_another_one(self):
        told = ([("a", 0)], [("b", 8)])
        self.assertEqual(states(TURNS, WEST, *told)[1], ("b", "surely"))
        self.assertEqual(states(TURNS, NORTH, *told)[1], ("b", "maybe"))
        for weathers in ([NORTH, WEST], [WEST, NORTH], [WEST, NORTH, WEST]):
            self.assertEqual(forecast(TURNS, weathers, *told)[1], ("b", "maybe"))

    def test_maybe_and_never(self):
        told = ([("a", 0)], [("b", 5)])
        self.assertEqual(states(TURNS, WEST, *told)[1], ("b", "never"))
        self.assertEqual(states(TURNS, NORTH, *told)[1], ("b", "maybe"))
        self.assertEqual(forecast(TURNS, [WEST, NORTH], *told)[1], ("b", "maybe"))
        self.assertEqual(forecast(TURNS, [WEST, NORTH], [("a", 0)], [("b", 4)])[1], ("b", "never"))

    def test_against_the_states_in_each_weather(self):
        words = []
        for seed in range(60):
            chance = random.Random(seed)
            land, weather, starts, breaks = spread_question(chance)
            weathers = [weather] + [random_weather(chance, land) for _ in range(chance.randint(0, 3))]
            each = [dict(states(land, weather, starts, breaks)) for weather in weathers]
            expected = []
            for place in land.places:
                there = {rows[place] for rows in each}
                expected.append((place, there.pop() if len(there) == 1 else "maybe"))
            words += [word for _, word in expected]
            chance.shuffle(weathers)
            with self.subTest(seed=seed):
                self.assertEqual(forecast(land, weathers, starts, breaks), expected)
                self.assertEqual(forecast(land, weathers + weathers[:1], starts, breaks), expected)
        self.assertTrue(all(words.count(word) > 10 for word in ("never", "maybe", "surely")))


class FirstDangerTest(unittest.TestCase):
    """Points 81 and 86."""

    def test_the_least_minute(self):
        told = ([("a", 1)], [])
        self.assertEqual(first_danger(TURNS, [NORTH], *told, ["b"]), (5, "b"))
        self.assertEqual(first_danger(TURNS, [WEST], *told, ["b"]), (7, "b"))
        self.assertEqual(first_danger(TURNS, [WEST], *told, ["c", "b", "d"]), (7, "b"))
        for weathers in ([WEST, NORTH], [NORTH, WEST], [WEST, NORTH, WEST, NORTH]):
            self.assertEqual(first_danger(TURNS, weathers, *told, ["b"]), (5, "b"))
            self.assertEqual(first_danger(TURNS, weathers, *told, ["c", "d"]), (9, "c"))

    def test_none(self):
        told = ([("a", 1)], [])
        self.assertIsNone(first_danger(TURNS, [NORTH], *told, ["c", "d"]))
        self.assertIsNone(first_danger(TURNS, [NORTH, WEST], *told, ["d"]))
        self.assertIsNone(first_danger(TURNS, [NORTH], *told, []))
        self.assertIsNone(first_danger(TURNS, [NORTH], [], [], ["a", "b"]))
        self.assertIsNone(first_danger(TURNS, [NORTH], [("a", 1)], [("a", 1)], ["a", "b"]))

    def test_several_places_at_the_same_minute(self):
        links = [(f"l{name}", "s", name, [(3, 9)]) for name in ("z", "p9", "p10", "m")]
        land = Land(winds=["calm"], places=["s", "z", "p9", "p10", "m"], links=links)
        told = ([CALM], [("s", 2)], [])
        self.assertEqual(first_danger(land, *told, ["z", "p9", "p10", "m"]), (5, "m"))
        self.assertEqual(first_danger(land, *told, ["z", "p9", "p10"]), (5, "p10"))
        self.assertEqual(first_danger(land, *told, ["z", "p9", "z"]), (5, "p9"))
        self.assertEqual(first_danger(land, *told, ["z"]), (5, "z"))
        self.assertEqual(first_danger(land, *told, ["z", "s", "m"]), (2, "s"))

    def test_several_places_at_the_same_minute_in_several_weathers(self):
        land = two_winds(("lb", "a", "b", [None, (3, 3)]), ("lc", "a", "c", [(3, 3), None]))
        for weathers in ([NORTH, WEST], [WEST, NORTH]):
            self.assertEqual(first_danger(land, weathers, [("a", 0)], [], ["c", "b"]), (3, "b"))

    def test_only_the_fastest_fires_count(self):
        self.assertEqual(first_danger(LINE, [CALM], START, [], ["p1"]), (2, "p1"))
        self.assertEqual(first_danger(LINE, [CALM], START, [("p1", 3)], ["p1"]), (2, "p1"))
        self.assertIsNone(first_danger(LINE, [CALM], START, [("p1", 2)], ["p1"]))


class BurntTest(unittest.TestCase):
    """Points 82 to 85."""

    def test_around_a_first_minute(self):
        # The fastest fire burns the places at 0, 2, 4 and 6, the slowest one at 0, 5, 10 and 15.
        told = (LINE, CALM, START, [])
        for minute, expected in (
            (0, (1, 1)), (1, (1, 1)), (2, (1, 2)), (3, (1, 2)), (4, (1, 3)), (5, (2, 3)), (6, (2, 4)), (9, (2, 4)),
            (10, (3, 4)), (14, (3, 4)), (15, (4, 4)), (16, (4, 4)), (100000, (4, 4)),
        ):
            with self.subTest(minute=minute):
                self.assertEqual(burnt(*told, minute), expected)
        self.assertEqual(burnt(LINE, CALM, [("p0", 1)], [], 0), (0, 0))

    def test_no_fire_at_all(self):
        self.assertEqual(burnt(LINE, CALM, [], [], 100000), (0, 0))
        self.assertEqual(burnt(LINE, CALM, START, [("p0", 0)], 100000), (0, 0))
        self.assertEqual(growth(LINE, CALM, [], []), [])
        self.assertEqual(growth(LINE, CALM, START, [("p0", 0)]), [])

    def test_places_that_only_some_fires_burn(self):
        told = (LINE, CALM, START, [("p2", 5)])
        self.assertEqual(burnt(*told, 100000), (2, 4))
        self.assertEqual(growth(*told), [(0, 1, 1), (2, 1, 2), (4, 1, 3), (5, 2, 3), (6, 2, 4)])

    def test_growth(self):
        expected = [(0, 1, 1), (2, 1, 2), (4, 1, 3), (5, 2, 3), (6, 2, 4), (10, 3, 4), (15, 4, 4)]
        self.assertEqual(growth(LINE, CALM, START, []), expected)

    def test_growth_with_equal_minutes(self):
        land = line_land(4, (3, 3))
        self.assertEqual(growth(land, CALM, [("p0", 7)], []), [(7, 1, 1), (10, 2, 2), (13, 3, 3), (16, 4, 4)])
        # The slowest fire comes to p1 when the fastest one comes to p2; two places burn at once.
        land = Land(winds=["calm"], places=["a", "b", "c", "d"], links=[
            ("ab", "a", "b", [(2, 4)]), ("bc", "b", "c", [(2, 5)]), ("ad", "a", "d", [(4, 9)]),
        ])
        expected = [(0, 1, 1), (2, 1, 2), (4, 2, 4), (9, 4, 4)]
        self.assertEqual(growth(land, CALM, [("a", 0)], []), expected)

    def test_ahead_of_the_first_minute_and_behind_the_last_one(self):
        for seed in range(30):
            told = spread_question(random.Random(seed))
            rows = growth(*told)
            self.assertEqual(burnt(*told, rows[0][0] - 1), (0, 0))
            for further in (0, 1, 100, 100000):
                self.assertEqual(burnt(*told, rows[-1][0] + further), rows[-1][1:])

    def test_between_the_minutes_nothing_changes(self):
        for seed in range(40):
            told = spread_question(random.Random(seed))
            rows = growth(*told)
            minutes = [row[0] for row in rows]
            fires = [fire(*told) for fire in (fastest, slowest)]
            self.assertEqual(minutes, sorted({minute for fire in fires for _, minute in fire if minute is not None}))
            for minute in range(minutes[-1] + 3):
                last = [row[1:] for row in rows if row[0] <= minute]
                with self.subTest(seed=seed, minute=minute):
                    self.assertEqual(burnt(*told, minute), last[-1] if last else (0, 0))

    def test_the_least_and_the_greatest_number_over_all_fires(self):
        for seed in range(40):
            chance = random.Random(seed)
            told = spread_question(chance)
            fires = [slow_burning(*told, random_numbers(chance, told[0])) for _ in range(8)]
            ends = [slow_burning(*told, extreme(told[0], at)) for at in (1, 0)]
            for minute in range(40):
                many = [sum(first is not None and first <= minute for _, first in fire) for fire in fires]
                least, greatest = (sum(first is not None and first <= minute for _, first in fire) for fire in ends)
                with self.subTest(seed=seed, minute=minute):
                    self.assertEqual(burnt(*told, minute), (least, greatest))
                    self.assertTrue(least <= min(many) and max(many) <= greatest)


class ErrorsTest(unittest.TestCase):
    """Point 87."""

    def test_one_weather(self):
        told = [
            (([(0, "storm"), (0, "gale")], [("x1", 0)], [("x2", 0)]), (UnknownName, "storm")),
            (([], [("p0", 0), ("x1", 0)], [("x2", 0)]), (UnknownName, "x1")), (([], [], [("x2", 0)]), (UnknownName, "x2")),
            (([], [], []), InvalidWeather), (([(0, "calm"), (0, "calm")], START, []), InvalidWeather),
        ]
        for arguments, error in told:
            with self.subTest(arguments=arguments):
                self.assertEqual(raised(burnt, LINE, *arguments, 3), error)
                self.assertEqual(raised(growth, LINE, *arguments), error)
                self.assertEqual(raised(forecast, LINE, [arguments[0]], *arguments[1:]), error)
                self.assertEqual(raised(first_danger, LINE, [arguments[0]], *arguments[1:], ["p0"]), error)

    def test_winds_weather_by_weather(self):
        bad = [(1, "calm"), (1, "calm")]
        strange = [(0, "calm"), (3, "storm")]
        other = [(0, "gale"), (3, "storm")]
        for weathers, error in (
            ([bad, strange], (UnknownName, "storm")), ([bad, strange, other], (UnknownName, "storm")),
            ([other, strange], (UnknownName, "gale")), ([CALM, strange, bad], (UnknownName, "storm")),
            ([[], other], (UnknownName, "gale")),
        ):
            for starts in ([], [("x1", 0)]):
                self.assertEqual(raised(forecast, LINE, weathers, starts, [("x2", 0)]), error)
                self.assertEqual(raised(first_danger, LINE, weathers, starts, [("x2", 0)], ["x3"]), error)

    def test_places_ahead_of_weathers(self):
        for weathers in ([CALM, []], [[], CALM], [[(1, "calm")]], []):
            told = (LINE, weathers)
            self.assertEqual(raised(forecast, *told, [("x1", 0)], [("x2", 0)]), (UnknownName, "x1"))
            self.assertEqual(raised(forecast, *told, [], [("x2", 0)]), (UnknownName, "x2"))
            self.assertEqual(raised(first_danger, *told, [("x1", 0)], [("x2", 0)], ["x3"]), (UnknownName, "x1"))
            self.assertEqual(raised(first_danger, *told, [], [("x2", 0)], ["x3"]), (UnknownName, "x2"))
            self.assertEqual(raised(first_danger, *told, [], [], ["p0", "x3", "x4"]), (UnknownName, "x3"))

    def test_bad_weathers(self):
        for weathers in ([CALM, []], [[], CALM], [CALM, [(0, "calm"), (100001, "calm")]], [[(1, "calm")], CALM]):
            self.assertEqual(raised(forecast, LINE, weathers, START, []), InvalidWeather)
            self.assertEqual(raised(first_danger, LINE, weathers, START, [], ["p0"]), InvalidWeather)

    def test_no_weathers(self):
        self.assertEqual(raised(forecast, LINE, [], START, []), InvalidQuestion)
        self.assertEqual(raised(first_danger, LINE, [], START, [], ["p0"]), InvalidQuestion)
        self.assertEqual(raised(first_danger, LINE, [], START, [], []), InvalidQuestion)

    def test_strange_places(self):
        for name in STRANGE:
            self.assertEqual(raised(first_danger, LINE, [CALM], [], [], ["p0", name]), (UnknownName, name))


class WholeTest(unittest.TestCase):
    def test_large_questions(self):
        land, weather, starts, breaks = large_question(longest=9, step=20)
        begin = time.perf_counter()
        any_weather(land, starts, breaks)
        every_weather(land, starts)
        forecast(land, [weather] * 40, starts, breaks)
        first_danger(land, [weather] * 40, starts, breaks, list(land.places))
        growth(land, weather, starts, breaks)
        self.assertLess(time.perf_counter() - begin, 5)

    def test_nothing_is_modified(self):
        told = ([[(0, "calm")], [(0, "calm"), (3, "calm")]], [("p0", 0)], [("p2", 3)], ["p1"])
        before = copy.deepcopy(told)
        any_weather(LINE, told[1], told[2])
        every_weather(LINE, told[1])
        forecast(LINE, *told[:3])
        first_danger(LINE, *told)
        burnt(LINE, told[0][0], *told[1:3], 4)
        growth(LINE, told[0][0], *told[1:3])
        self.assertEqual(told, before)


if __name__ == "__main__":
    unittest.main()

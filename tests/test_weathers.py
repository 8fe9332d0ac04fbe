"""Point 14: weathers."""

import unittest

from everyfire.errors import InvalidWeather, UnknownName
from everyfire.fires import fastest, slowest, states
from everyfire.lands import Land
from everyfire.weathers import check_weather, wind_at
from tests.scenes import raised

LAND = Land(winds=["north", "west"], places=["a", "b"], links=[("l", "a", "b", [(1, 2), None])])


def rows(many, step=1):
    return [(at * step, ("north", "west")[at % 2]) for at in range(many)]


class CheckWeatherTest(unittest.TestCase):
    def right(self, weather):
        with self.subTest(weather=weather):
            self.assertIsNone(check_weather(LAND, weather))

    def invalid(self, weather):
        with self.subTest(weather=weather):
            self.assertEqual(raised(check_weather, LAND, weather), InvalidWeather)
            self.assertEqual(raised(wind_at, LAND, weather, 0), InvalidWeather)
            for ask in (fastest, slowest, states):
                self.assertEqual(raised(ask, LAND, weather, [], []), InvalidWeather)

    def test_how_many_rows(self):
        for many in (1, 2, 39, 40):
            self.right(rows(many))
        for many in (0, 41, 42, 200):
            self.invalid(rows(many))

    def test_the_first_minute(self):
        for minute in (1, 2, 100000, -1, -5):
            self.invalid([(minute, "north")])
            self.invalid([(minute, "north"), (minute + 1, "west")])
        self.invalid([(-1, "north"), (0, "west")])

    def test_minutes_ascend(self):
        self.right([(0, "north"), (1, "west"), (2, "north"), (99, "west")])
        self.invalid([(0, "north"), (0, "west")])
        self.invalid([(0, "north"), (5, "west"), (5, "north")])
        self.invalid([(0, "north"), (5, "west"), (4, "north")])
        self.invalid([(0, "north"), (5, "west"), (4, "north"), (9, "west")])
        self.invalid([(0, "north"), (5, "west"), (0, "north")])
        self.invalid([(0, "north"), (-1, "west")])

    def test_the_last_minute(self):
        self.right([(0, "north"), (100000, "west")])
        self.invalid([(0, "north"), (100001, "west")])
        self.invalid([(0, "north"), (100000, "west"), (100001, "north")])
        self.invalid([(0, "north"), (100001, "west"), (50, "north")])

    def test_the_same_wind_twice(self):
        self.right([(0, "north"), (3, "north"), (4, "north"), (5, "west"), (6, "west")])

    def test_strange_winds_come_first(self):
        for name in ("east", "a", "l", "", "North", "west "):
            wrong = [
                [(0, name)], [(0, "north"), (5, name)], [(1, name)], [(0, "north"), (0, name)],
                [(0, "north"), (100001, "west"), (3, name)], [*rows(40), (40, name)], [(-1, "west"), (-1, name)],
            ]
            for weather in wrong:
                with self.subTest(weather=weather):
                    self.assertEqual(raised(check_weather, LAND, weather), (UnknownName, name))
                    self.assertEqual(raised(wind_at, LAND, weather, 3), (UnknownName, name))

    def test_the_first_strange_wind_is_told(self):
        self.assertEqual(raised(check_weather, LAND, [(0, "north"), (0, "x"), (1, "y")]), (UnknownName, "x"))
        self.assertEqual(raised(check_weather, LAND, [(3, "y"), (0, "x")]), (UnknownName, "y"))

    def test_arguments_are_not_changed(self):
        weather = [(0, "north"), (3, "west")]
        check_weather(LAND, weather)
        wind_at(LAND, weather, 4)
        self.assertEqual(weather, [(0, "north"), (3, "west")])


class WindAtTest(unittest.TestCase):
    def test_around_each_change(self):
        weather = [(0, "north"), (10, "west"), (11, "north"), (20, "north"), (30, "west"), (100000, "north")]
        told = {
            0: "north", 1: "north", 9: "north", 10: "west", 11: "north", 12: "north", 19: "north", 20: "north",
            21: "north", 29: "north", 30: "west", 31: "west", 99999: "west", 100000: "north", 100001: "north",
            10 ** 9: "north",
        }
        for minute, wind in told.items():
            with self.subTest(minute=minute):
                self.assertEqual(wind_at(LAND, weather, minute), wind)

    def test_a_weather_of_one_wind(self):
        for minute in (0, 1, 5000, 10 ** 7):
            self.assertEqual(wind_at(LAND, [(0, "west")], minute), "west")

    def test_a_weather_of_forty_rows(self):
        for minute in range(400):
            wind = ("north", "west")[minute // 7 % 2] if minute < 280 else "west"
            self.assertEqual(wind_at(LAND, rows(40, 7), minute), wind)


if __name__ == "__main__":
    unittest.main()

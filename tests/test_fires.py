"""Points 15 to 25: fires."""

import copy
import itertools
import random
import unittest

from everyfire.errors import InvalidQuestion, InvalidWeather, UnknownName
from everyfire.fires import (
    burning, check_numbers, fastest, least_numbers, most_numbers, slowest, state_of, states,
)
from everyfire.lands import Land
from tests.scenes import (
    STRANGE, extreme, large_question, line_land, raised, random_numbers, random_question, random_rows, slow_burning,
)

TWO = Land(winds=["north", "west"], places=["a", "b", "c"], links=[
    ("ab", "a", "b", [(4, 9), None]), ("bc", "b", "c", [None, (2, 3)]),
])
CALM = [(0, "calm")]


def one_link(*times):
    """Return a land with one link, from a to b."""
    winds = ["north", "west", "south"][:len(times)]
    return Land(winds=winds, places=["a", "b"], links=[("l", "a", "b", list(times))])


def never_later(rows, others):
    """Tell whether each place burns in the first fire as early as in the other one, or earlier."""
    return all(
        other is None or (minute is not None and minute <= other)
        for (_, minute), (_, other) in zip(rows, others)
    )


class NumbersTest(unittest.TestCase):
    """Points 15 and 19."""

    def wrong(self, land, numbers):
        with self.subTest(numbers=numbers):
            self.assertEqual(raised(check_numbers, land, numbers), InvalidQuestion)
            weather = [(0, land.winds[0])]
            self.assertEqual(raised(burning, land, weather, [], [], numbers), InvalidQuestion)

    def test_least_and_most_numbers(self):
        self.assertEqual(least_numbers(TWO), ((4, None), (None, 2)))
        self.assertEqual(most_numbers(TWO), ((9, None), (None, 3)))
        self.assertEqual(least_numbers(Land(winds=["w"], places=["a"])), ())
        self.assertEqual(most_numbers(Land(winds=["w"], places=["a"])), ())

    def test_right_numbers(self):
        for first in range(4, 10):
            for second in (2, 3):
                self.assertIsNone(check_numbers(TWO, ((first, None), (None, second))))
                self.assertIsNone(check_numbers(TWO, [[first, None], [None, second]]))
                self.assertIsNone(check_numbers(TWO, [(first, None), [None, second]]))
        self.assertIsNone(check_numbers(TWO, least_numbers(TWO)))
        self.assertIsNone(check_numbers(TWO, most_numbers(TWO)))

    def test_numbers_beside_the_bounds(self):
        for number in (-4, 0, 1, 3, 10, 11, 1000, 100001):
            self.wrong(TWO, ((number, None), (None, 2)))
        for number in (0, 1, 4):
            self.wrong(TWO, ((4, None), (None, number)))
        land = one_link((1, 1000))
        for number in (1, 2, 999, 1000):
            self.assertIsNone(check_numbers(land, [[number]]))
        for number in (0, 1001):
            self.wrong(land, [[number]])

    def test_none_and_numbers_in_the_wrong_places(self):
        self.wrong(TWO, ((None, None), (None, 2)))
        self.wrong(TWO, ((4, None), (None, None)))
        self.wrong(TWO, ((4, 4), (None, 2)))
        self.wrong(TWO, ((4, None), (0, 2)))
        self.wrong(TWO, ((None, 4), (None, 2)))

    def test_rows_too_many_or_too_few(self):
        self.wrong(TWO, ())
        self.wrong(TWO, ((4, None),))
        self.wrong(TWO, ((4, None), (None, 2), (None, 2)))
        self.wrong(TWO, [[4, None], [None, 2], []])

    def test_numbers_too_many_or_too_few(self):
        self.wrong(TWO, ((4,), (None, 2)))
        self.wrong(TWO, ((), ()))
        self.wrong(TWO, ((4, None, None), (None, 2)))
        self.wrong(TWO, ((4, None), (None, 2, 2)))

    def test_a_land_without_links(self):
        land = Land(winds=["calm"], places=["a", "b"])
        for numbers in ((), []):
            self.assertIsNone(check_numbers(land, numbers))
            self.assertEqual(burning(land, CALM, [("b", 7)], [], numbers), [("a", None), ("b", 7)])
        self.wrong(land, ((1,),))
        self.wrong(land, [[]])


class PassingTest(unittest.TestCase):
    """Points 16, 18 and 24."""

    def arrives(self, land, weather, minute, expected):
        with self.subTest(weather=weather, minute=minute):
            rows = fastest(land, weather, [("a", minute)], [])
            self.assertEqual(rows, [("a", minute), ("b", expected)])

    def test_waiting_until_the_link_is_open(self):
        weather = [(0, "north"), (20, "west")]
        for minute in (0, 1, 19, 20):
            self.arrives(one_link(None, (3, 3)), weather, minute, 23)
        self.arrives(one_link(None, (3, 3)), weather, 21, 24)

    def test_waiting_for_a_faster_wind(self):
        land = one_link((10, 10), (3, 3))
        weather = [(0, "north"), (20, "west")]
        told = {0: 10, 5: 15, 12: 22, 13: 23, 14: 23, 19: 23, 20: 23, 21: 24, 500: 503}
        for minute, expected in told.items():
            self.arrives(land, weather, minute, expected)

    def test_the_wind_that_changes_on_the_way_does_not_matter(self):
        self.arrives(one_link((10, 10), None), [(0, "north"), (5, "west")], 0, 10)
        self.arrives(one_link((10, 10), None), [(0, "north"), (5, "west")], 4, 14)
        self.arrives(one_link((3, 3), (50, 50)), [(0, "north"), (1, "west")], 0, 3)

    def test_a_link_that_never_opens_again(self):
        weather = [(0, "north"), (5, "west")]
        self.arrives(one_link((10, 10), None), weather, 5, None)
        self.arrives(one_link((10, 10), None), weather, 6, None)
        self.arrives(one_link(None, None), weather, 0, None)

    def test_setting_out_at_the_minute_of_a_change(self):
        weather = [(0, "north"), (5, "west"), (8, "north")]
        self.arrives(one_link(None, (3, 3)), weather, 5, 8)
        self.arrives(one_link(None, (3, 3)), weather, 7, 10)
        self.arrives(one_link(None, (3, 3)), weather, 8, None)
        self.arrives(one_link((2, 2), None), weather, 4, 6)
        self.arrives(one_link((2, 2), None), weather, 5, 10)

    def test_a_later_place_is_passed_sooner(self):
        # c burns by the link from b, although b burns behind the start at c's other neighbour.
        links = [("ac", "a", "c", [(9, 9)]), ("bc", "b", "c", [(1, 1)])]
        land = Land(winds=["calm"], places=["a", "b", "c"], links=links)
        self.assertEqual(fastest(land, CALM, [("a", 0), ("b", 5)], []), [("a", 0), ("b", 5), ("c", 6)])
        # And a wind behind the next one may bring the fire through first.
        land = one_link((30, 30), (20, 20), (4, 4))
        weather = [(0, "north"), (3, "west"), (6, "south")]
        self.arrives(land, weather, 0, 10)
        self.arrives(land, [(0, "north"), (3, "west"), (20, "south")], 0, 23)
        self.arrives(land, [(0, "north"), (3, "west"), (19, "south")], 0, 23)
        self.arrives(land, [(0, "north"), (3, "west"), (18, "south")], 0, 22)

    def test_several_links_between_the_same_places(self):
        links = [("l0", "a", "b", [(8, 8)]), ("l1", "a", "b", [(3, 9)]), ("l2", "b", "a", [(1, 1)])]
        land = Land(winds=["calm"], places=["a", "b"], links=links)
        self.assertEqual(fastest(land, CALM, [("a", 2)], []), [("a", 2), ("b", 5)])
        self.assertEqual(slowest(land, CALM, [("a", 2)], []), [("a", 2), ("b", 10)])
        self.assertEqual(burning(land, CALM, [("a", 2)], [], [[8], [9], [1]]), [("a", 2), ("b", 10)])
        self.assertEqual(fastest(land, CALM, [("b", 2)], []), [("a", 3), ("b", 2)])

    def test_links_lead_one_way(self):
        self.assertEqual(fastest(one_link((1, 1)), [(0, "north")], [("b", 0)], []), [("a", None), ("b", 0)])

    def test_cycles(self):
        links = [("ab", "a", "b", [(2, 2)]), ("bc", "b", "c", [(3, 3)]), ("ca", "c", "a", [(1, 1)])]
        land = Land(winds=["calm"], places=["a", "b", "c"], links=links)
        self.assertEqual(fastest(land, CALM, [("a", 4)], []), [("a", 4), ("b", 6), ("c", 9)])
        self.assertEqual(fastest(land, CALM, [("c", 4)], []), [("a", 5), ("b", 7), ("c", 4)])
        self.assertEqual(fastest(land, CALM, [("c", 4), ("b", 30)], []), [("a", 5), ("b", 7), ("c", 4)])

    def test_fires_that_are_found_minute_by_minute(self):
        for seed in range(300):
            chance = random.Random(seed)
            land, weather, starts, breaks = random_question(chance, winds=chance.randint(1, 3))
            numbers = random_numbers(chance, land)
            with self.subTest(seed=seed):
                expected = slow_burning(land, weather, starts, breaks, numbers)
                self.assertEqual(burning(land, weather, starts, breaks, numbers), expected)
                expected = slow_burning(land, weather, starts, breaks, extreme(land, 0))
                self.assertEqual(fastest(land, weather, starts, breaks), expected)
                expected = slow_burning(land, weather, starts, breaks, extreme(land, 1))
                self.assertEqual(slowest(land, weather, starts, breaks), expected)


class StartsAndBreaksTest(unittest.TestCase):
    """Points 17 and 23."""

    def setUp(self):
        self.land = line_land(3, (5, 5))

    def minutes(self, starts, breaks):
        rows = fastest(self.land, CALM, starts, breaks)
        self.assertEqual([place for place, _ in rows], ["p0", "p1", "p2"])
        return [minute for _, minute in rows]

    def test_no_starts(self):
        self.assertEqual(self.minutes([], []), [None, None, None])
        self.assertEqual(self.minutes([], [("p0", 3)]), [None, None, None])

    def test_the_least_start_counts(self):
        self.assertEqual(self.minutes([("p0", 9), ("p0", 4), ("p0", 7)], []), [4, 9, 14])
        self.assertEqual(self.minutes([("p1", 8), ("p0", 0)], []), [0, 5, 10])
        self.assertEqual(self.minutes([("p1", 3), ("p0", 0)], []), [0, 3, 8])

    def test_the_least_break_counts(self):
        self.assertEqual(self.minutes([("p0", 4)], [("p1", 20), ("p1", 9), ("p1", 30)]), [4, None, None])
        self.assertEqual(self.minutes([("p0", 4)], [("p1", 20), ("p1", 10), ("p1", 30)]), [4, 9, 14])

    def test_a_break_around_a_start(self):
        self.assertEqual(self.minutes([("p0", 6)], [("p0", 5)]), [None, None, None])
        self.assertEqual(self.minutes([("p0", 6)], [("p0", 6)]), [None, None, None])
        self.assertEqual(self.minutes([("p0", 6)], [("p0", 7)]), [6, 11, 16])
        self.assertEqual(self.minutes([("p0", 0)], [("p0", 0)]), [None, None, None])
        self.assertEqual(self.minutes([("p0", 0)], [("p0", 1)]), [0, 5, 10])

    def test_a_break_around_an_arrival(self):
        self.assertEqual(self.minutes([("p0", 0)], [("p1", 4)]), [0, None, None])
        self.assertEqual(self.minutes([("p0", 0)], [("p1", 5)]), [0, None, None])
        self.assertEqual(self.minutes([("p0", 0)], [("p1", 6)]), [0, 5, 10])
        self.assertEqual(self.minutes([("p0", 0)], [("p2", 10)]), [0, 5, None])
        self.assertEqual(self.minutes([("p0", 0)], [("p2", 11)]), [0, 5, 10])

    def test_a_break_that_stops_the_fire_but_not_an_earlier_start(self):
        self.assertEqual(self.minutes([("p0", 0), ("p1", 3)], [("p1", 4)]), [0, 3, 8])
        self.assertEqual(self.minutes([("p0", 0), ("p1", 4)], [("p1", 4)]), [0, None, None])
        self.assertEqual(self.minutes([("p1", 9), ("p1", 2)], [("p1", 3)]), [None, 2, 7])

    def test_great_minutes(self):
        self.assertEqual(self.minutes([("p0", 100000)], []), [100000, 100005, 100010])
        self.assertEqual(self.minutes([("p0", 100000)], [("p0", 100000)]), [None, None, None])
        self.assertEqual(self.minutes([("p0", 99990)], [("p2", 100000)]), [99990, 99995, None])
        self.assertEqual(self.minutes([("p0", 10 ** 7)], [("p2", 10 ** 7 + 10)]), [10 ** 7, 10 ** 7 + 5, None])
        self.assertEqual(self.minutes([("p0", 10 ** 7)], [("p2", 10 ** 7 + 11)]), [10 ** 7, 10 ** 7 + 5, 10 ** 7 + 10])

    def test_waiting_far_above_the_last_change(self):
        land = one_link((1000, 1000), (7, 7))
        weather = [(0, "north"), (99999, "north"), (100000, "west")]
        self.assertEqual(fastest(land, weather, [("a", 99005)], []), [("a", 99005), ("b", 100005)])
        self.assertEqual(fastest(land, weather, [("a", 99008)], []), [("a", 99008), ("b", 100007)])
        self.assertEqual(fastest(land, weather, [("a", 250000)], []), [("a", 250000), ("b", 250007)])

    def test_a_break_at_the_first_minute_and_one_later(self):
        for seed in range(60):
            chance = random.Random(seed)
            land, weather, starts, breaks = random_question(chance)
            for ask in (fastest, slowest):
                before = ask(land, weather, starts, breaks)
                for place, minute in before:
                    if minute is not None:
                        with self.subTest(seed=seed, place=place):
                            for earlier in {0, minute - 1, minute} - {-1}:
                                kept = ask(land, weather, starts, [*breaks, (place, earlier)])
                                self.assertIn((place, None), kept)
                            self.assertEqual(ask(land, weather, starts, [*breaks, (place, minute + 1)]), before)


class AllFiresTest(unittest.TestCase):
    """Points 19 to 22."""

    def test_every_fire_is_between_the_fastest_and_the_slowest_one(self):
        for seed in range(100):
            chance = random.Random(seed)
            told = random_question(chance)
            first, last = fastest(*told), slowest(*told)
            for _ in range(5):
                rows = burning(*told, random_numbers(chance, told[0]))
                with self.subTest(seed=seed):
                    self.assertTrue(never_later(first, rows))
                    self.assertTrue(never_later(rows, last))

    def test_fastest_and_slowest_are_fires_of_their_numbers(self):
        for seed in range(30):
            told = random_question(random.Random(seed))
            self.assertEqual(fastest(*told), burning(*told, least_numbers(told[0])))
            self.assertEqual(slowest(*told), burning(*told, most_numbers(told[0])))

    def test_states(self):
        land = line_land(3, (2, 5))
        starts = [("p0", 0)]
        self.assertEqual(states(land, CALM, starts, [("p1", 2)]), [("p0", "surely"), ("p1", "never"), ("p2", "never")])
        self.assertEqual(states(land, CALM, starts, [("p1", 3)]), [("p0", "surely"), ("p1", "maybe"), ("p2", "maybe")])
        self.assertEqual(states(land, CALM, starts, [("p1", 5)]), [("p0", "surely"), ("p1", "maybe"), ("p2", "maybe")])
        self.assertEqual(states(land, CALM, starts, [("p1", 6)]), [("p0", "surely"), ("p1", "surely"), ("p2", "surely")])
        self.assertEqual(states(land, CALM, starts, [("p0", 0)]), [("p0", "never"), ("p1", "never"), ("p2", "never")])

    def test_states_are_those_of_both_fires(self):
        words = {(True, True): "surely", (True, False): "maybe", (False, False): "never"}
        seen = set()
        for seed in range(80):
            told = random_question(random.Random(seed))
            expected = [
                (place, words[fast is not None, slow is not None])
                for (place, fast), (_, slow) in zip(fastest(*told), slowest(*told))
            ]
            seen.update(state for _, state in expected)
            self.assertEqual(states(*told), expected)
            for place, state in expected:
                self.assertEqual(state_of(*told, place), state)
        self.assertEqual(seen, {"never", "maybe", "surely"})

    def test_further_and_earlier_breaks_make_nothing_earlier(self):
        self.check_never_earlier(lambda chance, land, weather, starts, breaks: (
            land, weather, starts, [(place, max(0, stop - chance.randint(0, 5))) for place, stop in breaks]
            + random_rows(chance, land, 2, 14),
        ))

    def test_fewer_and_later_starts_make_nothing_earlier(self):
        self.check_never_earlier(lambda chance, land, weather, starts, breaks: (
            land, weather, [(place, begin + chance.randint(0, 5)) for place, begin in starts[1:]], breaks,
        ))

    def test_links_left_out_make_nothing_earlier(self):
        self.check_never_earlier(lambda chance, land, weather, starts, breaks: (
            land.without_link(chance.choice(land.link_names)), weather, starts, breaks,
        ))

    def check_never_earlier(self, changed):
        for seed in range(100):
            chance = random.Random(seed)
            told = random_question(chance)
            other = changed(chance, *told)
            with self.subTest(seed=seed):
                self.assertTrue(never_later(fastest(*told), fastest(*other)))
                self.assertTrue(never_later(slowest(*told), slowest(*other)))


class ErrorsTest(unittest.TestCase):
    """Point 25."""

    def test_each_order_of_faults(self):
        wrong_numbers = ((1, None), (None, 2))
        weathers = [[(1, "w1"), (0, "w2")], [(1, "north")], [(0, "north")]]
        starts = [[("s1", 0), ("s2", 0)], [("a", 0)]]
        breaks = [[("b", 1), ("b1", 0), ("b2", 0)], [("c", 0)]]
        for told in itertools.product(weathers, starts, breaks):
            expected = self.expected(*told)
            with self.subTest(told=told):
                for ask in (fastest, slowest, states):
                    self.assertEqual(raised(ask, TWO, *told), expected)
                self.assertEqual(raised(state_of, TWO, *told, "b"), expected)
                self.assertEqual(raised(burning, TWO, *told, least_numbers(TWO)), expected)
                self.assertEqual(raised(burning, TWO, *told, wrong_numbers), expected or InvalidQuestion)

    def expected(self, weather, starts, breaks):
        if weather[0][1] == "w1":
            return (UnknownName, "w1")
        if starts[0][0] == "s1":
            return (UnknownName, "s1")
        if len(breaks) > 1:
            return (UnknownName, "b1")
        return InvalidWeather if weather[0][0] == 1 else None

    def test_a_place_that_is_asked_for(self):
        weather = [(0, "north")]
        self.assertEqual(raised(state_of, TWO, weather, [], [], "x"), (UnknownName, "x"))
        self.assertEqual(raised(state_of, TWO, [(1, "north")], [], [], "x"), (UnknownName, "x"))
        self.assertEqual(raised(state_of, TWO, [(1, "north")], [], [("y", 0)], "x"), (UnknownName, "y"))
        self.assertEqual(raised(state_of, TWO, [], [("z", 0)], [("y", 0)], "x"), (UnknownName, "z"))
        self.assertEqual(raised(state_of, TWO, [(0, "v")], [("z", 0)], [("y", 0)], "x"), (UnknownName, "v"))
        self.assertEqual(raised(state_of, TWO, [], [], [], "a"), InvalidWeather)

    def test_strange_names(self):
        for name in STRANGE:
            with self.subTest(name=name):
                for ask in (fastest, slowest, states):
                    self.assertEqual(raised(ask, TWO, [(0, "west")], [(name, 0)], []), (UnknownName, name))
                    self.assertEqual(raised(ask, TWO, [(0, "west")], [], [("a", 3), (name, 0)]), (UnknownName, name))
                    if name != "north":
                        self.assertEqual(raised(ask, TWO, [(0, name)], [], []), (UnknownName, name))
                self.assertEqual(raised(state_of, TWO, [(0, "west")], [], [], name), (UnknownName, name))


class ArgumentsTest(unittest.TestCase):
    """Point 1."""

    def test_arguments_are_not_changed_and_lists_are_new(self):
        told = random_question(random.Random(3))
        numbers = [list(row) for row in least_numbers(told[0])]
        before = copy.deepcopy((told[1:], numbers))
        for ask, further in ((fastest, ()), (slowest, ()), (states, ()), (burning, (numbers,))):
            first = ask(*told, *further)
            expected = list(first)
            first.clear()
            self.assertEqual(ask(*told, *further), expected)
            self.assertTrue(all(isinstance(row, tuple) for row in expected))
        self.assertEqual((told[1:], numbers), before)

    def test_tuples_instead_of_lists(self):
        land, weather, starts, breaks = random_question(random.Random(3))
        expected = fastest(land, weather, starts, breaks)
        self.assertEqual(fastest(land, tuple(weather), tuple(starts), tuple(breaks)), expected)


class LargeTest(unittest.TestCase):
    def test_a_large_question(self):
        land, weather, starts, breaks = large_question()
        rows = fastest(land, weather, starts, breaks)
        self.assertEqual(rows[0], ("p0", 3))
        self.assertGreater(len([minute for _, minute in rows if minute is not None]), 4)
        for step in (1, 10, 2500):
            land, weather, starts, breaks = large_question(step=step)
            for _ in range(20):
                self.assertTrue(never_later(fastest(land, weather, starts, []), slowest(land, weather, starts, [])))

    def test_a_long_line_far_above_the_last_change(self):
        land = line_land(24, (1000, 1000), ("north", "west"))
        weather = [(at * 2564, ("north", "west")[at % 2]) for at in range(40)]
        rows = slowest(land, weather, [("p0", 100000)], [("p23", 123000)])
        self.assertEqual(rows, [(f"p{at}", 100000 + 1000 * at) for at in range(23)] + [("p23", None)])


if __name__ == "__main__":
    unittest.main()

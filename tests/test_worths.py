"""Points 46 to 51: what breaks are worth."""

import copy
import itertools
import random
import unittest

from everyfire.errors import InvalidQuestion, InvalidWeather, UnknownName
from everyfire.fires import fastest, slowest
from everyfire.lands import Land
from everyfire.worths import idle_breaks, keeps, least_offers, worths
from tests.scenes import (
    STRANGE, extreme, line_land, raised, random_land, random_times, random_weather, slow_burning,
)

CALM = [(0, "calm")]
LINE = line_land(4, (2, 5))
START = [("p0", 0)]
# Two ways from a to d, by b and by c, and one from d to e.
ROUND = Land(winds=["calm"], places=["a", "b", "c", "d", "e"], links=[
    ("ab", "a", "b", [(2, 9)]), ("ac", "a", "c", [(4, 4)]), ("bd", "b", "d", [(2, 9)]),
    ("cd", "c", "d", [(3, 3)]), ("de", "d", "e", [(1, 6)]),
])


def without(rows, at):
    return [*rows[:at], *rows[at + 1:]]


def burning_question(chance):
    """Return a question in which a good part of the land burns."""
    land = random_land(chance, places=7, links=18, shut=0.1)
    starts = [(chance.choice(land.places), chance.randint(0, 3)) for _ in range(chance.randint(1, 2))]
    others = [place for place in land.places if place != starts[0][0]]
    breaks = [(chance.choice(others), chance.randint(0, 9)) for _ in range(chance.randint(0, 4))]
    return land, random_weather(chance, land), starts, breaks


def ways_question(chance):
    """Return a question with several ways from s to t, over places between which there are links, too."""
    between = [f"m{at}" for at in range(6)]
    steps = [("s", place) for place in chance.sample(between, 4)] + [(place, "t") for place in chance.sample(between, 4)]
    steps += [tuple(chance.sample(between, 2)) for _ in range(chance.randint(0, 6))]
    links = [(f"l{at}", *step, random_times(chance, 2, 5, 0.1)) for at, step in enumerate(steps)]
    land = Land(winds=["north", "west"], places=["s", *between, "t"], links=links)
    breaks = [(chance.choice(between), chance.randint(0, 9)) for _ in range(chance.randint(0, 2))]
    return land, random_weather(chance, land), [("s", chance.randint(0, 3))], breaks


def brute_offers(told, offers, goals, most):
    """Return the least lists of offers, found by trying all lists."""
    land, weather, starts, breaks = told
    for many in range(most + 1):
        found = []
        for taken in itertools.combinations(range(len(offers)), many):
            further = [*breaks, *[offers[at] for at in taken]]
            burns = dict(fastest(land, weather, starts, further))
            if all(burns[goal] is None for goal in goals):
                found.append(taken)
        if found:
            return found
    return []


class WorthsTest(unittest.TestCase):
    """Points 46 and 47."""

    def test_a_break_without_which_places_burn_at_last(self):
        self.assertEqual(worths(LINE, CALM, START, [("p2", 4)]), [(("p2", "p3"), ())])
        self.assertEqual(worths(LINE, CALM, START, [("p2", 0)]), [(("p2", "p3"), ())])
        self.assertEqual(worths(LINE, CALM, START, [("p0", 0)]), [(("p0", "p1", "p2", "p3"), ())])

    def test_a_break_without_which_places_burn_earlier(self):
        self.assertEqual(worths(ROUND, CALM, [("a", 0)], [("b", 2)]), [(("b",), ("d", "e"))])
        self.assertEqual(worths(ROUND, CALM, [("a", 0)], [("b", 2), ("c", 9)]), [(("b",), ("d", "e")), ((), ())])
        self.assertEqual(worths(ROUND, CALM, [("a", 0)], [("c", 4)]), [(("c",), ())])

    def test_breaks_that_keep_together(self):
        told = [("b", 0), ("c", 0)]
        self.assertEqual(worths(ROUND, CALM, [("a", 0)], told), [(("b", "d", "e"), ()), (("c", "d", "e"), ())])
        # Without the break at b the fire comes to d at 4, so the break there at 5 is nothing.
        told = [("b", 0), ("d", 5)]
        self.assertEqual(worths(ROUND, CALM, [("a", 0)], told), [(("b", "d", "e"), ()), (("d", "e"), ())])

    def test_two_breaks_of_the_same_place(self):
        self.assertEqual(worths(LINE, CALM, START, [("p1", 1), ("p1", 2)]), [((), ()), ((), ())])
        kept = ("p1", "p2", "p3")
        self.assertEqual(worths(LINE, CALM, START, [("p1", 3), ("p1", 2)]), [((), ()), (kept, ())])
        self.assertEqual(worths(LINE, CALM, START, [("p1", 2), ("p1", 2)]), [((), ()), ((), ())])

    def test_a_break_that_comes_too_late(self):
        self.assertEqual(worths(LINE, CALM, START, [("p1", 3), ("p3", 7), ("p0", 1)]), [((), ())] * 3)
        self.assertEqual(worths(LINE, CALM, START, [("p1", 2), ("p3", 0)]), [(("p1", "p2"), ()), ((), ())])

    def test_no_breaks(self):
        self.assertEqual(worths(LINE, CALM, START, []), [])
        self.assertEqual(worths(LINE, CALM, [], [("p1", 0)]), [((), ())])

    def test_places_stand_in_the_order_of_the_land(self):
        links = [("xz", "x", "z", [(1, 1)]), ("zy", "z", "y", [(1, 1)])]
        land = Land(winds=["calm"], places=["y", "z", "x"], links=links)
        self.assertEqual(worths(land, CALM, [("x", 0)], [("x", 0)]), [(("y", "z", "x"), ())])
        told = [("x", 0), ("z", 9)]
        self.assertEqual(worths(land, CALM, told, [("x", 0)]), [(("x",), ("y", "z"))])

    def test_only_the_fastest_fire_counts(self):
        self.assertEqual(worths(LINE, CALM, START, [("p1", 3)]), [((), ())])
        self.assertEqual(worths(LINE, CALM, START, [("p1", 5)]), [((), ())])

    def test_against_fires_that_are_found_minute_by_minute(self):
        kept = delayed = 0
        for seed in range(150):
            told = burning_question(random.Random(seed))
            land, weather, starts, breaks = told
            fast = dict(slow_burning(*told, extreme(land, 0)))
            expected = []
            for at in range(len(breaks)):
                rows = slow_burning(land, weather, starts, without(breaks, at), extreme(land, 0))
                keeping = tuple(place for place, minute in rows if minute is not None and fast[place] is None)
                delaying = tuple(place for place, minute in rows if minute is not None and minute < (fast[place] or 0))
                kept, delayed = kept + len(keeping), delayed + len(delaying)
                expected.append((keeping, delaying))
            with self.subTest(seed=seed):
                self.assertEqual(worths(*told), expected)
        self.assertTrue(kept > 20 and delayed > 5)


class IdleBreaksTest(unittest.TestCase):
    """Point 48."""

    def test_breaks_that_matter_in_one_fire_alone(self):
        # p1 burns from 2 on in the fastest fire, and from 5 on in the slowest one.
        told = {0: [], 2: [], 3: [], 5: [], 6: [0]}
        for minute, idle in told.items():
            self.assertEqual(idle_breaks(LINE, CALM, START, [("p1", minute)]), idle)
        # By c, the slowest fire comes to d as it does without b, but the fastest one comes later.
        self.assertEqual(idle_breaks(ROUND, CALM, [("a", 0)], [("b", 2)]), [])

    def test_a_break_that_changes_the_fastest_fire_but_not_the_slowest_one(self):
        # x burns in the slowest fire at no time, as y is broken before it could come.
        links = [("sy", "s", "y", [(1, 9)]), ("yx", "y", "x", [(1, 1)])]
        land = Land(winds=["calm"], places=["s", "y", "x"], links=links)
        told = [("y", 5), ("x", 2)]
        self.assertEqual(slowest(land, CALM, [("s", 0)], told), slowest(land, CALM, [("s", 0)], told[:1]))
        self.assertNotEqual(fastest(land, CALM, [("s", 0)], told), fastest(land, CALM, [("s", 0)], told[:1]))
        self.assertEqual(idle_breaks(land, CALM, [("s", 0)], told), [])

    def test_a_break_that_changes_the_slowest_fire_but_not_the_fastest_one(self):
        told = [("p2", 5)]
        self.assertEqual(fastest(LINE, CALM, START, told), fastest(LINE, CALM, START, []))
        self.assertEqual(idle_breaks(LINE, CALM, START, told), [])
        self.assertEqual(idle_breaks(LINE, CALM, START, [*told, ("p2", 11)]), [1])

    def test_a_break_that_only_delays(self):
        # x burns from 3 on by y, and from 5 on by the slow link.
        links = [("sy", "s", "y", [(1, 1)]), ("yx", "y", "x", [(2, 2)]), ("sx", "s", "x", [(5, 5)])]
        land = Land(winds=["calm"], places=["s", "y", "x"], links=links)
        self.assertEqual(idle_breaks(land, CALM, [("s", 0), ("y", 1)], [("y", 2)]), [0])
        self.assertEqual(idle_breaks(land, CALM, [("s", 0)], [("y", 1)]), [])

    def test_breaks_that_stand_twice(self):
        self.assertEqual(idle_breaks(LINE, CALM, START, [("p1", 2), ("p1", 2)]), [0, 1])
        self.assertEqual(idle_breaks(LINE, CALM, START, [("p1", 2), ("p1", 2), ("p2", 3)]), [0, 1, 2])
        self.assertEqual(idle_breaks(LINE, CALM, START, [("p1", 2), ("p2", 3)]), [1])
        self.assertEqual(idle_breaks(LINE, CALM, START, [("p1", 3), ("p1", 4)]), [0, 1])
        self.assertEqual(idle_breaks(LINE, CALM, START, [("p1", 3), ("p1", 6)]), [1])

    def test_no_breaks(self):
        self.assertEqual(idle_breaks(LINE, CALM, START, []), [])
        self.assertEqual(idle_breaks(LINE, CALM, [], [("p1", 0), ("p0", 0)]), [0, 1])

    def test_against_fires_that_are_found_minute_by_minute(self):
        idle = 0
        for seed in range(100):
            land, weather, starts, breaks = burning_question(random.Random(seed))
            both = [slow_burning(land, weather, starts, breaks, extreme(land, at)) for at in (0, 1)]
            expected = [
                at for at in range(len(breaks))
                if [slow_burning(land, weather, starts, without(breaks, at), extreme(land, end)) for end in (0, 1)] == both
            ]
            idle += len(expected)
            with self.subTest(seed=seed):
                self.assertEqual(idle_breaks(land, weather, starts, breaks), expected)
        self.assertGreater(idle, 20)


class KeepsTest(unittest.TestCase):
    """Point 49."""

    def test_each_goal_counts(self):
        told = (LINE, CALM, START, [("p2", 4)])
        for goals, expected in ((["p2"], True), (["p3", "p2"], True), (["p1"], False), (["p3", "p0"], False), ([], True)):
            self.assertIs(keeps(*told, goals), expected)
        self.assertIs(keeps(*told, ["p3", "p1", "p3"]), False)
        self.assertIs(keeps(*told, ["p3", "p3"]), True)

    def test_the_fastest_fire_counts(self):
        for minute in range(8):
            self.assertIs(keeps(LINE, CALM, START, [("p1", minute)], ["p3"]), minute <= 2)

    def test_no_starts(self):
        self.assertIs(keeps(LINE, CALM, [], [], ["p0", "p1"]), True)


class LeastOffersTest(unittest.TestCase):
    """Point 50."""

    SQUARE = (ROUND, CALM, [("a", 0)])

    def test_kept_without_an_offer(self):
        for most in (0, 1, 2, 3):
            self.assertEqual(least_offers(LINE, CALM, [], [("p1", 0)], ["p2"], most=most), [()])
            self.assertEqual(least_offers(LINE, CALM, START, [("p1", 0)], [], most=most), [()])
            self.assertEqual(least_offers(LINE, CALM, START, [], [], most=most), [()])
            found = least_offers(LINE, CALM, START, [("p1", 0), ("p2", 0)], ["p3"], breaks=[("p1", 1)], most=most)
            self.assertEqual(found, [()])

    def test_kept_by_one_offer(self):
        offers = [("p3", 7), ("p1", 2), ("p2", 5), ("p0", 0), ("p2", 4), ("p0", 1)]
        self.assertEqual(least_offers(LINE, CALM, START, offers, ["p3"]), [(1,), (3,), (4,)])
        self.assertEqual(least_offers(LINE, CALM, START, offers, ["p3"], most=1), [(1,), (3,), (4,)])
        self.assertEqual(least_offers(LINE, CALM, START, offers, ["p3"], most=3), [(1,), (3,), (4,)])
        self.assertEqual(least_offers(LINE, CALM, START, offers, ["p3"], most=0), [])
        self.assertEqual(least_offers(LINE, CALM, START, offers, ["p3", "p1"]), [(1,), (3,)])

    def test_kept_by_two_offers(self):
        offers = [("c", 4), ("b", 2), ("c", 5), ("b", 0), ("e", 9)]
        expected = [(0, 1), (0, 3)]
        self.assertEqual(least_offers(*self.SQUARE, offers, ["d"]), expected)
        self.assertEqual(least_offers(*self.SQUARE, offers, ["d"], most=3), expected)
        self.assertEqual(least_offers(*self.SQUARE, offers, ["d"], most=1), [])
        self.assertEqual(least_offers(*self.SQUARE, offers, ["d"], most=0), [])

    def test_an_offer_that_helps_only_beside_another_one(self):
        # d burns from 4 on by b, and from 7 on by c: a break at d at 7 helps only if b is broken.
        offers = [("d", 7), ("b", 2), ("d", 8)]
        self.assertEqual(least_offers(*self.SQUARE, offers, ["e", "d"]), [(0, 1)])
        self.assertEqual(least_offers(*self.SQUARE, offers[::2], ["e", "d"], most=3), [])
        self.assertEqual(least_offers(*self.SQUARE, [("d", 7)], ["e"], breaks=[("b", 1)]), [(0,)])

    def test_kept_by_three_offers(self):
        links = [(f"l{at}", "s", name, [(3, 3)]) for at, name in enumerate("abc")]
        links += [(f"m{at}", name, "t", [(3, 3)]) for at, name in enumerate("abc")]
        land = Land(winds=["calm"], places=list("sabct"), links=links)
        offers = [("b", 3), ("a", 0), ("a", 4), ("c", 2), ("b", 1)]
        told = (land, CALM, [("s", 0)])
        self.assertEqual(least_offers(*told, offers, ["t"], most=3), [(0, 1, 3), (1, 3, 4)])
        for most in (0, 1, 2):
            self.assertEqual(least_offers(*told, offers, ["t"], most=most), [])
        self.assertEqual(least_offers(*told, offers, ["t"]), [])
        self.assertEqual(least_offers(*told, offers, ["t"], breaks=[("a", 3)]), [(0, 3), (3, 4)])
        self.assertEqual(least_offers(*told, offers, ["a", "b", "c"], most=3), [(0, 1, 3), (1, 3, 4)])

    def test_four_offers_are_never_taken(self):
        links = [(f"l{at}", "s", name, [(3, 3)]) for at, name in enumerate("abcd")]
        land = Land(winds=["calm"], places=list("sabcd"), links=links)
        offers = [(name, 0) for name in "abcd"]
        self.assertEqual(least_offers(land, CALM, [("s", 0)], offers, list("abcd"), most=3), [])
        self.assertEqual(least_offers(land, CALM, [("s", 0)], offers, list("abc"), most=3), [(0, 1, 2)])

    def test_kept_by_none(self):
        for most in (0, 1, 2, 3):
            self.assertEqual(least_offers(LINE, CALM, START, [], ["p3"], most=most), [])
            offers = [("p3", 7), ("p1", 3), ("p2", 9), ("p0", 1)]
            self.assertEqual(least_offers(LINE, CALM, START, offers, ["p3"], most=most), [])
            self.assertEqual(least_offers(LINE, CALM, START, [("p1", 0)], ["p0"], most=most), [])

    def test_offers_that_stand_twice(self):
        offers = [("p1", 2), ("p1", 2), ("p2", 9), ("p1", 1)]
        self.assertEqual(least_offers(LINE, CALM, START, offers, ["p3"], most=3), [(0,), (1,), (3,)])
        offers = [("b", 0), ("c", 0), ("b", 0), ("c", 0)]
        self.assertEqual(least_offers(*self.SQUARE, offers, ["d"]), [(0, 1), (0, 3), (1, 2), (2, 3)])

    def test_at_most_two_offers_unless_it_is_told(self):
        offers = [("b", 0), ("c", 0)]
        self.assertEqual(least_offers(*self.SQUARE, offers, ["d"]), [(0, 1)])

    def test_against_trying_all_lists(self):
        sizes = []
        for seed in range(400):
            chance = random.Random(seed)
            told = ways_question(chance)
            offers = [(chance.choice(told[0].places[1:-1]), chance.randint(0, 9)) for _ in range(10)]
            goals = chance.sample(told[0].places[2:], 2) if chance.random() < 0.3 else ["t"]
            most = chance.choice([0, 1, 2, 3, 3, 3])
            expected = brute_offers(told, offers, goals, most)
            sizes += [len(row) for row in expected]
            with self.subTest(seed=seed):
                found = least_offers(*told[:3], offers, goals, breaks=told[3], most=most)
                self.assertEqual(found, expected)
        self.assertTrue(all(sizes.count(many) > 10 for many in (0, 1, 2, 3)))

    def test_against_trying_all_lists_of_any_land(self):
        for seed in range(100):
            chance = random.Random(seed)
            told = burning_question(chance)
            offers = [(chance.choice(told[0].places), chance.randint(0, 6)) for _ in range(chance.randint(0, 9))]
            goals = chance.sample(told[0].places, chance.randint(0, 3))
            with self.subTest(seed=seed):
                found = least_offers(*told[:3], offers, goals, breaks=told[3], most=3)
                self.assertEqual(found, brute_offers(told, offers, goals, 3))

    def test_large_questions(self):
        # Three ways of seven places from s to t, with offers at all of them.
        places = ["s", "t"] + [f"w{way}p{at}" for way in range(3) for at in range(7)]
        steps = []
        for way in range(3):
            line = ["s", *[f"w{way}p{at}" for at in range(7)], "t"]
            steps += zip(line, line[1:])
            steps += [(f"w{way}p{at}", f"w{way}p{at - 1}") for at in range(1, 7)]
            steps += [(f"w{way}p{at}", f"w{way}p{at - 2}") for at in range(2, 7)]
        links = [(f"l{at}", *step, [(7, 9), (5, 30)]) for at, step in enumerate(steps)][:60]
        land = Land(winds=["north", "west"], places=places, links=links)
        weather = [(at * 3, ("north", "west")[at % 2]) for at in range(40)]
        offers = [(place, 0) for place in places[2:]] + [(place, 9000) for place in places[2:]]
        found = least_offers(land, weather, [("s", 0)], offers, ["t"], most=3)
        self.assertEqual(len(found), 7 ** 3)
        self.assertEqual(found[0], (0, 7, 14))
        self.assertEqual(least_offers(land, weather, [("s", 0)], offers, ["t"], most=2), [])
        breaks = [(place, 100 * at) for at, place in enumerate(places)]
        self.assertEqual(len(worths(land, weather, [("s", 0)], breaks)), 23)
        self.assertEqual(idle_breaks(land, weather, [("s", 0)], breaks), list(range(1, 23)))


class ErrorsTest(unittest.TestCase):
    """Point 51."""

    def test_most(self):
        for most in (-1, 4, -2, 5, 100, None, "2", 1.5, (1,), True):
            with self.subTest(most=most):
                self.assertEqual(raised(least_offers, LINE, CALM, START, [], [], most=most), InvalidQuestion)
        for most in (0, 1, 2, 3):
            self.assertIsNone(raised(least_offers, LINE, CALM, START, [], [], most=most))

    def test_each_order_of_faults_of_offers(self):
        names = ["w", "s", "b", "o", "g"]
        for faults in itertools.product((False, True), repeat=7):
            wind, start, stop, offer, goal, weather, most = faults
            rows = [(1 if weather else 0, "w" if wind else "calm"), (5, "v" if wind else "calm")]
            starts = [("p0", 0), ("s", 0), ("r", 0)] if start else START
            breaks = [("p0", 9), ("b", 0), ("c", 0)] if stop else []
            offers = [("p1", 0), ("o", 0), ("n", 0)] if offer else [("p1", 0)]
            goals = ["p2", "g", "h"] if goal else ["p2"]
            strange = [name for name, fault in zip(names, faults) if fault]
            expected = (UnknownName, strange[0]) if strange else None
            expected = expected or (InvalidWeather if weather else None) or (InvalidQuestion if most else None)
            with self.subTest(faults=faults):
                told = {"breaks": breaks, "most": 4 if most else 2}
                self.assertEqual(raised(least_offers, LINE, rows, starts, offers, goals, **told), expected)

    def test_order_of_the_others(self):
        for ask, further in ((worths, ()), (idle_breaks, ()), (keeps, (["g", "h"],))):
            with self.subTest(ask=ask.__name__):
                wrong = [(1, "calm")]
                found = raised(ask, LINE, [(1, "w"), (0, "v")], [("s", 0)], [("b", 0)], *further)
                self.assertEqual(found, (UnknownName, "w"))
                found = raised(ask, LINE, wrong, [("p0", 0), ("s", 0)], [("b", 0)], *further)
                self.assertEqual(found, (UnknownName, "s"))
                found = raised(ask, LINE, wrong, START, [("p0", 0), ("b", 0), ("c", 0)], *further)
                self.assertEqual(found, (UnknownName, "b"))
                expected = (UnknownName, "g") if further else InvalidWeather
                self.assertEqual(raised(ask, LINE, wrong, START, [], *further), expected)
        self.assertEqual(raised(keeps, LINE, [], START, [], ["p1"]), InvalidWeather)
        self.assertEqual(raised(keeps, LINE, [], START, [], ["p1", "x"]), (UnknownName, "x"))

    def test_strings_that_are_no_names(self):
        for name in STRANGE:
            with self.subTest(name=name):
                self.assertEqual(raised(worths, LINE, CALM, [(name, 0)], []), (UnknownName, name))
                self.assertEqual(raised(idle_breaks, LINE, CALM, START, [(name, 0)]), (UnknownName, name))
                self.assertEqual(raised(keeps, LINE, CALM, START, [], [name]), (UnknownName, name))
                self.assertEqual(raised(least_offers, LINE, CALM, START, [(name, 0)], []), (UnknownName, name))
                self.assertEqual(raised(least_offers, LINE, CALM, START, [], ["p0", name]), (UnknownName, name))


class ArgumentsTest(unittest.TestCase):
    """Point 1."""

    def test_arguments_are_not_changed_and_lists_are_new(self):
        breaks, offers, goals = [("p2", 4), ("p3", 9)], [("p2", 4), ("p1", 2)], ["p3"]
        before = copy.deepcopy((breaks, offers, goals))
        asks = [
            lambda: worths(LINE, CALM, START, breaks), lambda: idle_breaks(LINE, CALM, START, breaks),
            lambda: least_offers(LINE, CALM, START, offers, goals, breaks=breaks[1:], most=1),
        ]
        for ask in asks:
            first = ask()
            expected = list(first)
            self.assertTrue(expected)
            first.clear()
            self.assertEqual(ask(), expected)
        keeps(LINE, CALM, START, breaks, goals)
        self.assertEqual((breaks, offers, goals), before)
        self.assertEqual((CALM, START), ([(0, "calm")], [("p0", 0)]))

    def test_tuples_instead_of_lists(self):
        told = (LINE, tuple(CALM), tuple(START), (("p2", 4), ("p2", 9)))
        self.assertEqual(worths(*told), [(("p2", "p3"), ()), ((), ())])
        self.assertEqual(idle_breaks(*told), [1])
        self.assertIs(keeps(*told, ("p3",)), True)
        found = least_offers(*told[:3], (("p1", 2),), ("p3",), breaks=(("p2", 7),), most=1)
        self.assertEqual(found, [(0,)])


if __name__ == "__main__":
    unittest.main()

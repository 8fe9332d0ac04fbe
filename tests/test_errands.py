"""Points 57 and 58: quickest walks, errands and the best order."""

import copy
import itertools
import random
import time
import unittest

from everyfire.errors import InvalidQuestion, InvalidWeather, UnknownName
from everyfire.hands import Order, best_order, dangers, end_of, errand, keeps, quickest
from everyfire.lands import Land
from tests.scenes import STRANGE, large_paths, large_question, raised, random_land, random_paths, random_weather

CALM = [(0, "calm")]


def path_land(*paths, places="abcdef", links=()):
    return Land(winds=["calm"], places=list(places), links=links, paths=[(one, other, told) for one, other, told in paths])


# A line of paths from a to e; no path leads to f.
LINE = path_land(("a", "b", 2), ("b", "c", 3), ("c", "d", 4), ("d", "e", 5))


def slow_walks(land, one, other):
    """Return all walks between two places on which no place lies twice, as rows (minutes, places)."""
    found = []
    open_walks = [(0, [one])]
    while open_walks:
        minutes, places = open_walks.pop()
        if places[-1] == other:
            found.append((minutes, places))
        else:
            steps = [step for step in land.walks_from(places[-1]) if step[0] not in places]
            open_walks += [(minutes + step[1], [*places, step[0]]) for step in steps]
    return found


def slow_order(land, weather, starts, home, places, minutes, kept):
    """Return the places and the minute of the best order, by the words of point 58."""
    best = None
    for order in itertools.permutations(places):
        deeds = errand(land, home, order, minutes)
        if deeds is None or len(deeds) > 30:
            continue
        hands = [("ann", home, deeds)]
        if dangers(land, weather, starts, hands):
            continue
        if all(keeps(land, weather, starts, hands, place) for place in kept):
            if best is None or end_of(land, hands) < best[1]:
                best = (order, end_of(land, hands))
    return best


def parts(order):
    return None if order is None else (order.places, order.minute)


class QuickestTest(unittest.TestCase):
    """Point 57."""

    def test_along_a_line(self):
        self.assertEqual(quickest(LINE, "a", "d"), ["a", "b", "c", "d"])
        self.assertEqual(quickest(LINE, "d", "a"), ["d", "c", "b", "a"])
        self.assertEqual(quickest(LINE, "b", "c"), ["b", "c"])

    def test_to_itself(self):
        for place in LINE.places:
            self.assertEqual(quickest(LINE, place, place), [place])

    def test_no_walk(self):
        self.assertIsNone(quickest(LINE, "a", "f"))
        self.assertIsNone(quickest(LINE, "f", "a"))

    def test_links_are_no_paths(self):
        land = path_land(("a", "b", 1), links=[("l", "a", "c", [(1, 1)])])
        self.assertIsNone(quickest(land, "a", "c"))

    def test_minutes_count_and_not_places(self):
        land = path_land(("a", "d", 10), ("a", "b", 3), ("b", "c", 3), ("c", "d", 3))
        self.assertEqual(quickest(land, "a", "d"), ["a", "b", "c", "d"])
        land = path_land(("a", "d", 8), ("a", "b", 3), ("b", "c", 3), ("c", "d", 3))
        self.assertEqual(quickest(land, "a", "d"), ["a", "d"])

    def test_of_equal_minutes_the_first_by_names(self):
        land = path_land(("a", "c", 1), ("c", "d", 2), ("a", "b", 2), ("b", "d", 1))
        self.assertEqual(quickest(land, "a", "d"), ["a", "b", "d"])
        self.assertEqual(quickest(land, "d", "a"), ["d", "b", "a"])
        land = path_land(("a", "c", 2), ("c", "d", 1), ("a", "b", 1), ("b", "d", 2))
        self.assertEqual(quickest(land, "a", "d"), ["a", "b", "d"])

    def test_of_equal_minutes_also_if_another_one_has_fewer_places(self):
        land = path_land(("a", "d", 9), ("a", "b", 3), ("b", "c", 3), ("c", "d", 3))
        self.assertEqual(quickest(land, "a", "d"), ["a", "b", "c", "d"])
        self.assertEqual(quickest(land, "d", "a"), ["d", "a"])
        land = path_land(("a", "e", 9), ("a", "f", 3), ("f", "c", 3), ("c", "e", 3))
        self.assertEqual(quickest(land, "a", "e"), ["a", "e"])

    def test_names_differ_late(self):
        # By b, c, f or by b, d, e: the place behind b decides.
        land = path_land(("a", "b", 1), ("b", "c", 2), ("c", "f", 2), ("b", "d", 1), ("d", "f", 3))
        self.assertEqual(quickest(land, "a", "f"), ["a", "b", "c", "f"])

    def test_names_are_compared_as_strings_and_not_in_the_order_of_the_land(self):
        for names in (("p10", "p9"), ("p9", "p10")):
            paths = [("s", names[0], 1), (names[0], "t", 1), ("s", names[1], 1), (names[1], "t", 1)]
            land = Land(winds=["calm"], places=["t", *names, "s"], paths=paths)
            self.assertEqual(quickest(land, "s", "t"), ["s", "p10", "t"])

    def test_against_all_walks(self):
        several = 0
        for seed in range(80):
            chance = random.Random(seed)
            land = random_paths(chance, random_land(chance, places=7), paths=10, longest=3)
            for one, other in itertools.product(land.places, repeat=2):
                walks = slow_walks(land, one, other)
                least = min(walks)[0] if walks else None
                several += len([walk for walk in walks if walk[0] == least]) > 1
                with self.subTest(seed=seed, one=one, other=other):
                    self.assertEqual(quickest(land, one, other), min(walks)[1] if walks else None)
        self.assertGreater(several, 200)

    def test_strange_places(self):
        for name in STRANGE:
            self.assertEqual(raised(quickest, LINE, name, "a"), (UnknownName, name))
            self.assertEqual(raised(quickest, LINE, "a", name), (UnknownName, name))
            self.assertEqual(raised(quickest, LINE, name, "x"), (UnknownName, name))


class ErrandTest(unittest.TestCase):
    """Point 58: one errand."""

    def test_walks_and_cuts(self):
        deeds = [("walk", "b"), ("walk", "c"), ("cut", 7), ("walk", "b"), ("cut", 7)]
        self.assertEqual(errand(LINE, "a", ["c", "b"], 7), deeds)
        self.assertEqual(errand(LINE, "a", ("b", "c"), 1), [("walk", "b"), ("cut", 1), ("walk", "c"), ("cut", 1)])

    def test_no_places(self):
        self.assertEqual(errand(LINE, "a", [], 7), [])
        # Then no walk is looked for.
        self.assertEqual(errand(LINE, "moor", [], 7), [])

    def test_the_home_among_the_places(self):
        self.assertEqual(errand(LINE, "a", ["a"], 7), [("cut", 7)])
        deeds = [("walk", "b"), ("cut", 7), ("walk", "a"), ("cut", 7)]
        self.assertEqual(errand(LINE, "a", ["b", "a"], 7), deeds)

    def test_a_place_that_stands_twice(self):
        self.assertEqual(errand(LINE, "a", ["b", "b"], 7), [("walk", "b"), ("cut", 7), ("cut", 7)])
        deeds = [("cut", 7), ("walk", "b"), ("cut", 7), ("walk", "a"), ("cut", 7)]
        self.assertEqual(errand(LINE, "a", ["a", "b", "a"], 7), deeds)

    def test_more_than_five_places_and_thirty_deeds(self):
        deeds = errand(LINE, "a", ["e", "a"] * 4, 3)
        self.assertEqual(len(deeds), 40)
        self.assertEqual(deeds[:6], [("walk", "b"), ("walk", "c"), ("walk", "d"), ("walk", "e"), ("cut", 3), ("walk", "d")])

    def test_no_walk(self):
        self.assertIsNone(errand(LINE, "a", ["f"], 7))
        self.assertIsNone(errand(LINE, "f", ["a"], 7))
        self.assertIsNone(errand(LINE, "a", ["b", "c", "f"], 7))
        self.assertEqual(errand(LINE, "f", ["f"], 7), [("cut", 7)])

    def test_the_quickest_walk_is_taken(self):
        land = path_land(("a", "d", 9), ("a", "b", 3), ("b", "c", 3), ("c", "d", 3))
        deeds = [("walk", "b"), ("walk", "c"), ("walk", "d"), ("cut", 2), ("walk", "a"), ("cut", 2)]
        self.assertEqual(errand(land, "a", ["d", "a"], 2), deeds)

    def test_strange_places(self):
        for name in STRANGE:
            self.assertEqual(raised(errand, LINE, name, ["a"], 7), (UnknownName, name))
            self.assertEqual(raised(errand, LINE, "a", [name], 7), (UnknownName, name))
            self.assertEqual(raised(errand, LINE, "a", ["b", "c", name], 7), (UnknownName, name))
        self.assertEqual(raised(errand, LINE, "x1", ["x2"], 7), (UnknownName, "x1"))
        self.assertEqual(raised(errand, LINE, "a", ["x2", "x3"], 7), (UnknownName, "x2"))

    def test_places_behind_a_walk_that_does_not_exist(self):
        self.assertIsNone(errand(LINE, "a", ["f", "moor"], 7))
        self.assertIsNone(errand(LINE, "a", ["b", "f", "b", "moor"], 7))
        self.assertEqual(raised(errand, LINE, "a", ["b", "moor", "f"], 7), (UnknownName, "moor"))


class BestOrderTest(unittest.TestCase):
    """Point 58: the best order."""

    def test_no_places(self):
        found = best_order(LINE, CALM, [], "a", [], 7, [])
        self.assertIsInstance(found, Order)
        self.assertEqual(parts(found), ((), 0))
        self.assertEqual(parts(best_order(LINE, CALM, [("b", 0)], "a", [], 7, ["c"])), ((), 0))
        self.assertIsNone(best_order(LINE, CALM, [("b", 0)], "a", [], 7, ["b"]))
        self.assertIsNone(best_order(LINE, CALM, [("a", 0)], "a", [], 7, []))

    def test_one_place(self):
        self.assertEqual(parts(best_order(LINE, CALM, [], "a", ["c"], 7, ["c", "a"])), (("c",), 12))
        self.assertIsNone(best_order(LINE, CALM, [], "a", ["f"], 7, []))

    def test_the_order_that_ends_earliest(self):
        self.assertEqual(parts(best_order(LINE, CALM, [], "b", ["a", "e"], 1, [])), (("a", "e"), 18))
        self.assertEqual(parts(best_order(LINE, CALM, [], "c", ["a", "e"], 1, [])), (("a", "e"), 21))
        self.assertEqual(parts(best_order(LINE, CALM, [], "d", ["a", "e"], 1, [])), (("e", "a"), 21))
        told = ["e", "b", "d", "c", "a"]
        self.assertEqual(parts(best_order(LINE, CALM, [], "a", told, 1, [])), (("a", "b", "c", "d", "e"), 19))

    def test_orders_that_end_at_the_same_minute(self):
        land = path_land(("a", "b", 2), ("a", "c", 2), ("b", "c", 2))
        for places in itertools.permutations("abc"):
            expected = [order for order in itertools.permutations(places) if order[0] == "a"][0]
            self.assertEqual(parts(best_order(land, CALM, [], "a", list(places), 1, [])), (expected, 7))

    def test_the_home_among_the_places(self):
        self.assertEqual(parts(best_order(LINE, CALM, [], "b", ["a", "b"], 5, [])), (("b", "a"), 12))
        self.assertEqual(parts(best_order(LINE, CALM, [], "f", ["f"], 5, [])), (("f",), 5))

    def test_no_walk_to_a_place(self):
        self.assertIsNone(best_order(LINE, CALM, [], "a", ["b", "f"], 1, []))
        self.assertIsNone(best_order(LINE, CALM, [], "f", ["b"], 1, []))

    def test_errands_of_more_than_thirty_deeds(self):
        places = [f"p{at}" for at in range(24)]
        line = [(f"p{at}", f"p{at + 1}", 1) for at in range(23)]
        land = Land(winds=["calm"], places=places, paths=line)
        # 23 walks there and 2 cuts, and so many walks back.
        self.assertEqual(parts(best_order(land, CALM, [], "p0", ["p23", "p18"], 1, [])), (("p18", "p23"), 25))
        self.assertEqual(parts(best_order(land, CALM, [], "p0", ["p1", "p22", "p0"], 1, [])), (("p0", "p1", "p22"), 25))
        told = (land, CALM, [], "p9")
        self.assertEqual(parts(best_order(*told, ["p0", "p19"], 1, [])), (("p0", "p19"), 30))
        self.assertEqual(len(errand(land, "p9", ["p0", "p19"], 1)), 30)
        self.assertIsNone(best_order(*told, ["p0", "p20"], 1, []))
        self.assertEqual(len(errand(land, "p9", ["p0", "p20"], 1)), 31)

    def test_a_quicker_order_that_is_not_safe(self):
        # The fire comes to c at 10, so it is cut first, though from a it is quicker by b.
        told = (LINE, CALM, [("c", 10)], "a")
        self.assertEqual(parts(best_order(LINE, CALM, [], "a", ["c", "b"], 5, [])), (("b", "c"), 15))
        self.assertEqual(parts(best_order(*told, ["b", "c"], 5, [])), (("c", "b"), 18))
        # A break at the very minute when the fire comes is in time.
        self.assertEqual(parts(best_order(LINE, CALM, [("c", 9)], "a", ["b", "c"], 4, [])), (("c", "b"), 16))
        self.assertIsNone(best_order(LINE, CALM, [("c", 8)], "a", ["b", "c"], 4, []))

    def test_a_quicker_order_that_cuts_too_late(self):
        # By b first it is quicker, but then the cut at e is ready at 8, and otherwise at 5.
        land = path_land(("a", "e", 3), ("a", "b", 1), ("b", "e", 3), links=[
            ("fc", "f", "c", [(1, 1)]), ("ed", "e", "d", [(9, 9)]), ("ce", "c", "e", [(1, 1)]),
        ])
        for minute, expected in ((6, ("b", "e")), (5, ("e", "b")), (3, ("e", "b")), (2, None)):
            told = (land, CALM, [("f", minute)], "a", ["b", "e"], 2, ["d"])
            with self.subTest(minute=minute):
                self.assertEqual(parts(best_order(*told)), expected and (expected, 8 if expected[0] == "b" else 10))

    def test_safe_orders_that_do_not_keep(self):
        land = path_land(("a", "b", 1), ("a", "c", 1), ("b", "c", 1), links=[("l", "d", "e", [(1, 9)])])
        told = (land, CALM, [("d", 6)], "a", ["b", "c"], 2)
        self.assertEqual(parts(best_order(*told, [])), (("b", "c"), 6))
        self.assertEqual(parts(best_order(*told, ["b", "f"])), (("b", "c"), 6))
        self.assertIsNone(best_order(*told, ["d"]))
        self.assertIsNone(best_order(*told, ["b", "e"]))

    def test_against_all_orders(self):
        found = other = 0
        for seed in range(150):
            chance = random.Random(seed)
            land = random_paths(chance, random_land(chance, places=8, links=12, longest=9), paths=12, longest=4)
            weather = random_weather(chance, land)
            starts = [(chance.choice(land.places), chance.randint(0, 20)) for _ in range(2)]
            places = chance.sample(land.places, chance.randint(1, 4))
            kept = chance.sample(land.places, chance.randint(0, 2))
            told = (land, weather, starts, chance.choice(land.places), places, chance.randint(1, 6), kept)
            expected = slow_order(*told)
            found += expected is not None
            free = slow_order(land, weather, [], *told[3:])
            other += expected is not None and expected != free
            with self.subTest(seed=seed):
                self.assertEqual(parts(best_order(*told)), expected)
        self.assertGreater(found, 30)
        self.assertGreater(other, 5)

    def test_strange_places(self):
        for name in STRANGE:
            self.assertEqual(raised(best_order, LINE, CALM, [], name, ["a"], 7, ["a"]), (UnknownName, name))
            self.assertEqual(raised(best_order, LINE, CALM, [], "a", ["a", name], 7, ["a"]), (UnknownName, name))
            self.assertEqual(raised(best_order, LINE, CALM, [], "a", ["a"], 7, ["b", name]), (UnknownName, name))

    def test_wrong_questions(self):
        self.assertEqual(raised(best_order, LINE, CALM, [], "a", list("abcdef"), 7, []), InvalidQuestion)
        self.assertIsNone(raised(best_order, LINE, CALM, [], "a", list("abcde"), 7, list("abcdef")))
        self.assertEqual(raised(best_order, LINE, CALM, [], "a", ["b", "c", "b"], 7, []), InvalidQuestion)
        for minutes in (0, -1, 1001, 100000):
            self.assertEqual(raised(best_order, LINE, CALM, [], "a", ["b"], minutes, []), InvalidQuestion)
            self.assertEqual(raised(best_order, LINE, CALM, [], "a", [], minutes, []), InvalidQuestion)
        for minutes in (1, 1000):
            self.assertIsNone(raised(best_order, LINE, CALM, [], "a", ["b"], minutes, []))
        # A place to be kept may stand twice, and be among those to be cut.
        self.assertEqual(parts(best_order(LINE, CALM, [], "a", ["b"], 7, ["b", "b"])), (("b",), 9))

    def test_the_order_of_the_errors(self):
        storm = [(0, "storm")]
        told = [
            ((LINE, storm, [("x5", 0)], "x1", ["x2", "x3"], 0, ["x4"]), (UnknownName, "x1")),
            ((LINE, storm, [("x5", 0)], "a", ["x2", "x3"], 0, ["x4"]), (UnknownName, "x2")),
            ((LINE, storm, [("x5", 0)], "a", ["b", "x3"], 0, ["x4"]), (UnknownName, "x3")),
            ((LINE, storm, [("x5", 0)], "a", ["b", "b"], 0, ["x4"]), (UnknownName, "x4")),
            ((LINE, storm, [("x5", 0)], "a", list("abcdef"), 1, []), InvalidQuestion),
            ((LINE, storm, [("x5", 0)], "a", ["b", "b"], 1, []), InvalidQuestion),
            ((LINE, storm, [("x5", 0)], "a", ["b"], 0, []), InvalidQuestion),
            ((LINE, storm, [("x5", 0)], "a", ["b"], 1, []), (UnknownName, "storm")),
            ((LINE, [], [("x5", 0)], "a", ["b"], 1, []), (UnknownName, "x5")),
            ((LINE, [], [("a", 0)], "a", ["b"], 1, []), InvalidWeather),
        ]
        for arguments, error in told:
            with self.subTest(arguments=arguments[1:]):
                self.assertEqual(raised(best_order, *arguments), error)

    def test_large_questions(self):
        land, weather, starts, _ = large_question(longest=20, step=40)
        land = large_paths(land)
        begin = time.perf_counter()
        best_order(land, weather, starts, "p3", ["p23", "p7", "p12", "p18", "p9"], 1000, ["p20"])
        best_order(land, weather, [("p0", 9000)], "p3", ["p23", "p7", "p12", "p18", "p9"], 10, ["p20"])
        for one, other in itertools.product(land.places, repeat=2):
            quickest(land, one, other)
        self.assertLess(time.perf_counter() - begin, 5)


class ArgumentsTest(unittest.TestCase):
    """Point 1, and the fields of an Order."""

    def test_nothing_is_modified(self):
        told = (LINE, [(0, "calm")], [("c", 10)], "a", ["b", "c"], 5, ["b"])
        before = copy.deepcopy(told[1:])
        best_order(*told)
        errand(LINE, "a", told[4], 5)
        self.assertEqual(told[1:], before)

    def test_lists_are_new(self):
        for ask, told in ((quickest, ("a", "c")), (errand, ("a", ["c", "b"], 4))):
            first = ask(LINE, *told)
            self.assertIsInstance(first, list)
            self.assertIsNot(first, ask(LINE, *told))

    def test_an_order_keeps_a_tuple(self):
        places = ["a", "b"]
        order = Order(places, 7)
        places.clear()
        self.assertEqual((order.places, order.minute), (("a", "b"), 7))


if __name__ == "__main__":
    unittest.main()

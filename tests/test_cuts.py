"""Points 39 to 45: cuts."""

import copy
import itertools
import random
import unittest

from everyfire.cuts import Cut, check_cut, cut, is_kept, single_breaks
from everyfire.errors import NoCut, UnknownName
from everyfire.fires import states
from everyfire.lands import Land
from tests.scenes import STRANGE, line_land, raised, random_land

OPEN = [(2, 5)]


def land_of(places, *steps):
    """Return a land with links along these steps, each a string of two places."""
    links = [(f"l{at}", step[0], step[1], OPEN) for at, step in enumerate(steps)]
    return Land(winds=["calm"], places=list(places), links=links)


def passes_of(land):
    return {(link[1], link[2]) for link in land.links if any(bounds is not None for bounds in link[3])}


def all_ways(land, starts, goals):
    """Return all ways on which no place lies twice."""
    passes = passes_of(land)
    found, waiting = [], [(place,) for place in dict.fromkeys(starts)]
    while waiting:
        way = waiting.pop()
        if way[-1] in goals:
            found.append(way)
        waiting += [(*way, place) for place in land.places if (way[-1], place) in passes and place not in way]
    return found


def keeps_all(ways, broken):
    return all(set(way) & set(broken) for way in ways)


def least_cuts(land, starts, goals, allowed):
    """Return all cuts, found by trying all sets of places; none if there is no cut."""
    ways = all_ways(land, starts, goals)
    choice = [place for place in land.places if place in allowed]
    for many in range(len(choice) + 1):
        found = [list(row) for row in itertools.combinations(choice, many) if keeps_all(ways, row)]
        if found:
            return found
    return []


class CutTestCase(unittest.TestCase):
    def check_found(self, land, starts, goals, allowed):
        """Check the cut of a question against all cuts, and its ways by themselves; return it."""
        found = cut(land, starts, goals, allowed)
        self.assertIsInstance(found, Cut)
        self.assertIn(found.places, least_cuts(land, starts, goals, allowed))
        self.assertEqual(len(found.ways), len(found.places))
        passes = passes_of(land)
        for way in found.ways:
            self.assertIsInstance(way, tuple)
            self.assertIn(way[0], starts)
            self.assertIn(way[-1], goals)
            self.assertTrue(all(step in passes for step in zip(way, way[1:])))
        lying = [place for way in found.ways for place in set(way) if place in allowed]
        self.assertEqual(len(lying), len(set(lying)))
        self.assertIs(check_cut(land, starts, goals, allowed, found.places, found.ways), True)
        return found


class CutClassTest(unittest.TestCase):
    def test_fields_are_copies(self):
        places, ways = ["a"], [["a", "b"], ("c",)]
        found = Cut(places, ways)
        places.append("b")
        ways[0].append("c")
        ways.pop()
        self.assertEqual((found.places, found.ways), (["a"], [("a", "b"), ("c",)]))
        self.assertEqual((Cut((), ()).places, Cut((), ()).ways), ([], []))


class IsKeptTest(unittest.TestCase):
    """Points 39 to 41."""

    SQUARE = land_of("abcd", "ab", "ac", "bd", "cd")

    def test_each_way_needs_a_place(self):
        told = {"": False, "b": False, "c": False, "bc": True, "a": True, "d": True, "abcd": True, "bb": False}
        for places, expected in told.items():
            with self.subTest(places=places):
                self.assertIs(is_kept(self.SQUARE, ["a"], ["d"], list(places)), expected)

    def test_the_way_leads_from_the_start_to_the_goal(self):
        self.assertIs(is_kept(self.SQUARE, ["d"], ["a"], []), True)
        self.assertIs(is_kept(self.SQUARE, ["b"], ["c"], []), True)
        self.assertIs(is_kept(self.SQUARE, ["b"], ["d"], []), False)
        self.assertIs(is_kept(self.SQUARE, ["b"], ["d"], ["c", "a"]), False)

    def test_a_start_that_is_a_goal(self):
        self.assertIs(is_kept(self.SQUARE, ["a"], ["a"], []), False)
        self.assertIs(is_kept(self.SQUARE, ["a"], ["a"], ["b", "c", "d"]), False)
        self.assertIs(is_kept(self.SQUARE, ["a"], ["a"], ["a"]), True)
        self.assertIs(is_kept(self.SQUARE, ["a", "d"], ["a", "d"], ["a"]), False)

    def test_no_starts_or_goals(self):
        self.assertIs(is_kept(self.SQUARE, [], ["d"], []), True)
        self.assertIs(is_kept(self.SQUARE, ["a"], [], []), True)
        self.assertIs(is_kept(self.SQUARE, [], [], ["a"]), True)

    def test_several_starts_and_goals(self):
        self.assertIs(is_kept(self.SQUARE, ["a", "c", "a"], ["d", "b", "d"], ["a"]), False)
        self.assertIs(is_kept(self.SQUARE, ["a", "c", "a"], ["d", "b", "d"], ["a", "c"]), True)
        self.assertIs(is_kept(self.SQUARE, ["b", "c"], ["d"], ["b"]), False)

    def test_links_that_are_shut_in_every_wind(self):
        for times, expected in (([None, None], True), ([None, (1, 1)], False), ([(3, 9), None], False)):
            land = Land(winds=["north", "west"], places=["a", "b"], links=[("l", "a", "b", times)])
            self.assertIs(is_kept(land, ["a"], ["b"], []), expected)
            self.assertEqual(cut(land, ["a"], ["b"], ["a"]).places, [] if expected else ["a"])
            self.assertIs(check_cut(land, ["a"], ["b"], ["a"], ["a"], [("a", "b")]), not expected)
            self.assertEqual(single_breaks(land, ["a"], ["b"], ["b"]), ["b"])

    def test_links_of_several_winds_on_one_way(self):
        links = [("l", "a", "b", [(1, 1), None]), ("m", "b", "c", [None, (1, 1)])]
        land = Land(winds=["north", "west"], places=["a", "b", "c"], links=links)
        self.assertIs(is_kept(land, ["a"], ["c"], []), False)
        self.assertIs(is_kept(land, ["a"], ["c"], ["b"]), True)

    def test_cycles(self):
        land = land_of("abcd", "ab", "bc", "ca", "cd")
        self.assertIs(is_kept(land, ["a"], ["d"], ["b"]), True)
        self.assertIs(is_kept(land, ["b"], ["d"], ["a"]), False)

    def test_against_all_ways(self):
        for seed in range(150):
            chance = random.Random(seed)
            land = random_land(chance, places=6, links=9)
            starts, goals, places = (chance.sample(land.places, chance.randint(0, 2)) for _ in range(3))
            with self.subTest(seed=seed):
                self.assertIs(is_kept(land, starts, goals, places), keeps_all(all_ways(land, starts, goals), places))

    def test_what_is_kept_burns_in_no_weather_and_what_is_not_burns_in_some(self):
        for seed in range(40):
            chance = random.Random(seed)
            land = random_land(chance, places=5, links=7, winds=2, longest=3)
            start, goal, broken = (chance.choice(land.places) for _ in range(3))
            breaks = [(broken, 0)]
            # In turn each wind blows for longer than a link takes, until all ways are passed.
            turns = [(at * 20, land.winds[at % 2]) for at in range(40)]
            burns = dict(states(land, turns, [(start, 0)], breaks))[goal] != "never"
            with self.subTest(seed=seed):
                self.assertIs(is_kept(land, [start], [goal], [broken]), not burns)


class FindCutTest(CutTestCase):
    """Points 42 and 43."""

    def test_no_way_at_all(self):
        land = land_of("abc", "ab", "cb")
        for starts, goals in ((["a"], ["c"]), ([], ["b"]), (["a"], []), ([], []), (["b"], ["a", "c"])):
            for allowed in ([], ["a", "b", "c"]):
                found = cut(land, starts, goals, allowed)
                self.assertEqual((found.places, found.ways), ([], []))
                self.check_found(land, starts, goals, allowed)

    def test_one_way(self):
        land = line_land(4)
        for allowed in (["p1"], ["p2"], ["p0"], ["p3"]):
            found = self.check_found(land, ["p0"], ["p3"], allowed)
            self.assertEqual((found.places, found.ways), (allowed, [("p0", "p1", "p2", "p3")]))

    def test_each_of_several_cuts_may_be_told(self):
        found = self.check_found(line_land(4), ["p0"], ["p3"], ["p3", "p2", "p1", "p0"])
        self.assertEqual(len(found.places), 1)
        self.check_found(line_land(4), ["p0"], ["p3"], ["p1", "p2", "p1"])

    def test_starts_and_goals_that_may_be_broken_or_not(self):
        land = land_of("abcd", "ab", "ac", "bd", "cd")
        self.assertEqual(self.check_found(land, ["a"], ["d"], ["b", "c"]).places, ["b", "c"])
        self.assertEqual(self.check_found(land, ["a"], ["d"], ["b", "c", "a"]).places, ["a"])
        self.assertEqual(self.check_found(land, ["a"], ["d"], ["d", "c"]).places, ["d"])
        self.assertEqual(len(self.check_found(land, ["a"], ["d"], ["a", "b", "c", "d"]).places), 1)
        self.assertEqual(self.check_found(land, ["b", "c"], ["d"], ["c", "a", "b"]).places, ["b", "c"])

    def test_a_place_that_is_a_start_and_a_goal(self):
        land = land_of("abc", "ab", "bc")
        found = self.check_found(land, ["a"], ["a"], ["a", "b"])
        self.assertEqual((found.places, found.ways), (["a"], [("a",)]))
        found = self.check_found(land, ["a", "b", "c"], ["c", "b", "a"], ["a", "b", "c"])
        self.assertEqual((found.places, sorted(found.ways)), (["a", "b", "c"], [("a",), ("b",), ("c",)]))
        self.assertEqual(self.check_found(land, ["a", "b"], ["b", "c"], ["b", "c"]).places, ["b"])

    def test_starts_and_goals_twice(self):
        land = land_of("abcd", "ac", "bc", "cd")
        for starts, goals in ((["a", "a"], ["d", "d"]), (["a", "b", "a", "b"], ["d", "d", "d"])):
            self.assertEqual(self.check_found(land, starts, goals, ["c"]).places, ["c"])
            self.assertEqual(self.check_found(land, starts, goals, ["a", "b"]).places, sorted(set(starts)))

    def test_no_cut(self):
        land = land_of("abcd", "ab", "ac", "bd", "cd")
        for allowed in ([], ["b"], ["c"], ["c", "c"]):
            self.assertEqual(raised(cut, land, ["a"], ["d"], allowed), NoCut)
        self.assertEqual(raised(cut, land, ["a"], ["a"], ["b", "c", "d"]), NoCut)
        self.assertEqual(raised(cut, land, ["a", "b"], ["b", "d"], ["a", "d"]), NoCut)
        self.assertEqual(raised(cut, land, ["b"], ["d"], ["a"]), NoCut)

    def test_a_near_way_is_given_up_for_two_others(self):
        # The way a b e f is short, but takes b and e, which the two ways a b d f and a c e f need.
        land = land_of("abcdef", "ab", "ac", "be", "bd", "ce", "df", "ef")
        found = self.check_found(land, ["a"], ["f"], ["b", "c", "d", "e"])
        self.assertEqual(len(found.places), 2)
        self.assertEqual(sorted(found.ways), [("a", "b", "d", "f"), ("a", "c", "e", "f")])

    def test_a_near_way_is_given_up_in_each_order_of_links(self):
        steps = ["ab", "ac", "be", "bd", "ce", "df", "ef"]
        for seed in range(60):
            random.Random(seed).shuffle(steps)
            places = random.Random(seed).sample("abcdef", 6)
            found = self.check_found(land_of(places, *steps), ["a"], ["f"], ["b", "c", "d", "e"])
            self.assertEqual(sorted(found.ways), [("a", "b", "d", "f"), ("a", "c", "e", "f")])

    def test_places_that_may_not_be_broken_are_shared(self):
        land = land_of("abcdefg", "ab", "ac", "bd", "cd", "de", "df", "eg", "fg")
        found = self.check_found(land, ["a"], ["g"], ["b", "c", "e", "f"])
        self.assertEqual(len(found.places), 2)
        self.assertTrue(all("d" in way for way in found.ways))
        self.assertEqual(self.check_found(land, ["a"], ["g"], ["f", "b", "d"]).places, ["d"])

    def test_places_stand_in_the_order_of_the_land(self):
        for places in ("axyzb", "bzyxa", "yaxbz"):
            land = land_of(places, "ax", "ay", "az", "xb", "yb", "zb")
            for allowed in (["x", "y", "z"], ["z", "y", "x"], ["y", "z", "x", "y"]):
                found = self.check_found(land, ["a"], ["b"], allowed)
                self.assertEqual(found.places, [place for place in places if place in "xyz"])

    def test_several_links_between_the_same_places(self):
        self.assertEqual(len(self.check_found(land_of("abc", "ab", "ab", "bc", "bc"), ["a"], ["c"], ["b"]).ways), 1)
        land = land_of("abcd", "ab", "ba", "bc", "cb", "cd", "dc")
        self.assertEqual(len(self.check_found(land, ["a"], ["d"], ["b", "c"]).ways), 1)

    def test_against_all_cuts(self):
        sizes = []
        for seed in range(300):
            chance = random.Random(seed)
            land = random_land(chance, places=7, links=chance.randint(6, 18))
            starts = [chance.choice(land.places) for _ in range(chance.randint(1, 3))]
            goals = [chance.choice(land.places) for _ in range(chance.randint(1, 3))]
            allowed = chance.sample(land.places, chance.randint(2, 7))
            with self.subTest(seed=seed):
                if least_cuts(land, starts, goals, allowed):
                    sizes.append(len(self.check_found(land, starts, goals, allowed).places))
                else:
                    sizes.append(None)
                    self.assertEqual(raised(cut, land, starts, goals, allowed), NoCut)
        self.assertEqual(set(sizes), {None, 0, 1, 2, 3})

    def test_a_large_land(self):
        # Five rows of four places between a start and a goal; from each row to the next one lead two links a place.
        places = ["begin", "end"] + [f"r{row}p{at}" for row in range(5) for at in range(4)]
        steps = [("begin", f"r0p{at}") for at in range(4)] + [(f"r4p{at}", "end") for at in range(4)]
        for row, at in itertools.product(range(4), range(4)):
            steps += [(f"r{row}p{at}", f"r{row + 1}p{at}"), (f"r{row}p{at}", f"r{row + 1}p{(at + 1) % 4}")]
        steps += [(f"r{row}p0", "begin") for row in range(5)] + [(f"r{row}p1", f"r{row - 1}p2") for row in range(1, 5)]
        links = [(f"l{at}", *step, OPEN) for at, step in enumerate(steps)]
        land = Land(winds=["calm"], places=places, links=links)
        allowed = places[2:]
        found = cut(land, ["begin"], ["end"], allowed)
        self.assertEqual((len(found.places), len(found.ways)), (4, 4))
        self.assertIs(check_cut(land, ["begin"], ["end"], allowed, found.places, found.ways), True)
        found = cut(land, places, places, places)
        self.assertEqual((found.places, len(found.ways)), (places, 22))

    def test_as_many_ways_as_a_land_has_places(self):
        places = [f"p{at}" for at in range(24)]
        links = [(f"l{at}", f"p{at % 12}", f"p{12 + at * 5 % 12}", OPEN) for at in range(60)]
        land = Land(winds=["calm"], places=places, links=links)
        found = cut(land, places[:12], places[12:], places)
        self.assertEqual(len(found.places), 12)
        self.assertIs(check_cut(land, places[:12], places[12:], places, found.places, found.ways), True)


class CheckCutTest(unittest.TestCase):
    """Point 44."""

    # Two ways from a to f over b or c, d, and e or g; d may not be broken.
    LAND = land_of("abcdefgz", "ab", "ac", "bd", "cd", "de", "dg", "ef", "gf", "db")
    ASKED = (LAND, ["a"], ["f"], ["b", "c", "e", "g", "z"])
    PLACES = ["b", "c"]
    WAYS = [("a", "b", "d", "e", "f"), ("a", "c", "d", "g", "f")]

    def tells(self, expected, places, ways, asked=None):
        with self.subTest(places=places, ways=ways):
            self.assertIs(check_cut(*(asked or self.ASKED), places, ways), expected)

    def test_right_ones(self):
        self.tells(True, self.PLACES, self.WAYS)
        self.tells(True, ["c", "b"], self.WAYS[::-1])
        self.tells(True, ["g", "e"], self.WAYS)
        self.tells(True, ["g", "e"], [("a", "b", "d", "g", "f"), ("a", "c", "d", "e", "f")])
        self.tells(True, self.PLACES, [list(way) for way in self.WAYS])

    def test_ways_that_share_a_place_that_may_not_be_broken(self):
        self.tells(True, self.PLACES, self.WAYS)
        self.tells(False, self.PLACES, self.WAYS, (*self.ASKED[:3], ["b", "c", "d"]))

    def test_ways_that_share_a_place_that_may_be_broken(self):
        self.tells(False, self.PLACES, [("a", "b", "d", "e", "f"), ("a", "c", "d", "e", "f")])
        self.tells(False, self.PLACES, [("a", "b", "d", "e", "f"), ("a", "b", "d", "g", "f")])

    def test_one_way_with_a_place_several_times(self):
        self.tells(True, self.PLACES, [("a", "b", "d", "b", "d", "e", "f"), ("a", "c", "d", "g", "f")])
        self.tells(False, self.PLACES, [("a", "b", "d", "e", "f"), ("a", "c", "d", "b", "d", "g", "f")])

    def test_a_place_that_may_not_be_broken(self):
        land = line_land(3)
        for place in land.places:
            self.tells(True, [place], [("p0", "p1", "p2")], (land, ["p0"], ["p2"], [place]))
            others = [other for other in land.places if other != place]
            self.tells(False, [place], [("p0", "p1", "p2")], (land, ["p0"], ["p2"], others))

    def test_a_place_twice(self):
        self.tells(False, ["b", "c", "c"], self.WAYS)
        self.tells(False, ["b", "b"], self.WAYS)
        self.tells(False, ["b", "c", "z", "z"], [*self.WAYS, *self.WAYS])
        # Told twice it counts twice, so it takes two ways, which share the place.
        land = line_land(3)
        self.tells(False, ["p1", "p1"], [("p0", "p1", "p2")], (land, ["p0"], ["p2"], ["p1"]))
        self.tells(False, ["p1", "p1"], [("p0", "p1", "p2")] * 2, (land, ["p0"], ["p2"], ["p1"]))
        self.tells(True, ["p1"], [("p0", "p1", "p2")], (land, ["p0"], ["p2"], ["p1", "p1"]))

    def test_a_way_twice(self):
        self.tells(False, self.PLACES, [self.WAYS[0], self.WAYS[0]])
        self.tells(False, self.PLACES, [*self.WAYS, self.WAYS[1]])

    def test_too_many_or_too_few(self):
        self.tells(False, self.PLACES, self.WAYS[:1])
        self.tells(False, self.PLACES, [])
        self.tells(False, ["b"], self.WAYS)
        self.tells(False, [], self.WAYS)
        self.tells(False, ["b", "c", "z"], self.WAYS)
        self.tells(False, ["b", "c", "e"], self.WAYS)

    def test_goals_that_are_not_kept(self):
        for places in (["b", "e"], ["c", "g"], ["b", "z"], ["z", "e"]):
            self.tells(False, places, self.WAYS)
        self.tells(False, ["b"], self.WAYS[:1])
        self.tells(False, [], [])

    def test_a_way_from_or_to_another_place(self):
        self.tells(False, self.PLACES, [self.WAYS[0][1:], self.WAYS[1]])
        self.tells(False, self.PLACES, [self.WAYS[0], self.WAYS[1][:-1]])
        self.tells(False, self.PLACES, [("z",), self.WAYS[1]])
        self.tells(False, self.PLACES, [self.WAYS[0][::-1], self.WAYS[1]])

    def test_a_way_along_no_link(self):
        self.tells(False, self.PLACES, [("a", "d", "e", "f"), self.WAYS[1]])
        self.tells(False, self.PLACES, [("a", "f"), self.WAYS[1]])
        self.tells(False, self.PLACES, [("a", "b", "b", "d", "e", "f"), self.WAYS[1]])
        self.tells(False, self.PLACES, [("a", "b", "a", "b", "d", "e", "f"), self.WAYS[1]])

    def test_an_empty_way(self):
        self.tells(False, self.PLACES, [(), self.WAYS[1]])
        self.tells(False, self.PLACES, [self.WAYS[0], ()])
        self.tells(False, ["b"], [()], (self.LAND, [], [], ["b"]))

    def test_no_way_at_all(self):
        for starts, goals in (([], ["f"]), (["a"], []), (["f"], ["a"])):
            self.tells(True, [], [], (self.LAND, starts, goals, ["b"]))
            self.tells(False, ["b"], [], (self.LAND, starts, goals, ["b"]))
            self.tells(False, [], [("a",)], (self.LAND, starts, goals, ["b"]))
            self.tells(False, ["b"], [("a",)], (self.LAND, starts, goals, ["b"]))

    def test_a_way_of_one_place(self):
        asked = (self.LAND, ["a", "b"], ["a"], ["a"])
        self.tells(True, ["a"], [("a",)], asked)
        self.tells(False, ["a"], [("b",)], asked)
        self.tells(False, ["a"], [("a", "a")], asked)

    def test_what_is_no_name_raises_nothing(self):
        for name in [*STRANGE, None, 3, ("b",), ["b"], {}, b"b"]:
            self.tells(False, ["b", name], self.WAYS)
            self.tells(False, [name, "c"], self.WAYS)
            self.tells(False, self.PLACES, [("a", "b", name, "e", "f"), self.WAYS[1]])
            self.tells(False, self.PLACES, [(name,), self.WAYS[1]])
            self.tells(False, self.PLACES, [self.WAYS[0], ("a", "c", "d", "g", name)])
            self.tells(False, self.PLACES, [self.WAYS[0], (name, "c", "d", "g", "f")])

    def test_what_is_right_is_a_cut(self):
        taken = 0
        for seed in range(800):
            chance = random.Random(seed)
            land = random_land(chance, places=5, links=8)
            starts, goals = chance.sample(land.places, 2), chance.sample(land.places, 2)
            allowed = chance.sample(land.places, chance.randint(1, 5))
            places = chance.sample(land.places, chance.randint(0, 2))
            ways = all_ways(land, starts, goals)
            ways = chance.sample(ways, min(len(places), len(ways)))
            if check_cut(land, starts, goals, allowed, places, ways):
                taken += 1
                cuts = [sorted(found) for found in least_cuts(land, starts, goals, allowed)]
                self.assertIn(sorted(places), cuts)
        self.assertGreater(taken, 20)


class SingleBreaksTest(unittest.TestCase):
    def test_places_on_each_way(self):
        land = land_of("abcdef", "ab", "bc", "bd", "ce", "de", "ef")
        self.assertEqual(single_breaks(land, ["a"], ["f"], list("fedcba")), ["a", "b", "e", "f"])
        self.assertEqual(single_breaks(land, ["a"], ["f"], ["e", "c", "b"]), ["b", "e"])
        self.assertEqual(single_breaks(land, ["a"], ["f"], ["c", "d"]), [])
        self.assertEqual(single_breaks(land, ["a"], ["f"], []), [])
        self.assertEqual(single_breaks(land, ["a", "c"], ["f"], list("abcdef")), ["e", "f"])
        self.assertEqual(single_breaks(land, ["a"], ["a", "f"], list("abcdef")), ["a"])

    def test_each_once_in_the_order_of_the_land(self):
        land = land_of("cba", "ab", "bc")
        self.assertEqual(single_breaks(land, ["a"], ["c"], ["a", "b", "a", "c", "b", "a"]), ["c", "b", "a"])
        self.assertEqual(single_breaks(land, ["a"], ["c"], ["b", "b"]), ["b"])

    def test_no_way_at_all(self):
        land = land_of("abc", "ab")
        self.assertEqual(single_breaks(land, ["a"], ["c"], ["c", "a", "c"]), ["a", "c"])
        self.assertEqual(single_breaks(land, [], ["b"], ["b"]), ["b"])
        self.assertEqual(single_breaks(land, ["a"], [], ["b", "a"]), ["a", "b"])

    def test_against_is_kept(self):
        for seed in range(80):
            chance = random.Random(seed)
            land = random_land(chance, places=6, links=10)
            starts, goals = chance.sample(land.places, 2), chance.sample(land.places, 2)
            allowed = [chance.choice(land.places) for _ in range(6)]
            ways = all_ways(land, starts, goals)
            expected = [place for place in land.places if place in allowed and keeps_all(ways, [place])]
            self.assertEqual(single_breaks(land, starts, goals, allowed), expected)


class ErrorsTest(unittest.TestCase):
    """Point 45."""

    LAND = line_land(3)
    ASKS = (cut, is_kept, single_breaks)

    def all_raise(self, expected, starts, goals, allowed):
        with self.subTest(starts=starts, goals=goals, allowed=allowed):
            for ask in self.ASKS:
                self.assertEqual(raised(ask, self.LAND, starts, goals, allowed), expected)
            # Strange places and ways to be checked raise nothing.
            self.assertEqual(raised(check_cut, self.LAND, starts, goals, allowed, ["v"], [("w",)]), expected)

    def test_order(self):
        self.all_raise((UnknownName, "r"), ["p0", "r", "s"], ["g"], ["x"])
        self.all_raise((UnknownName, "g"), ["p0"], ["p2", "g", "h"], ["x"])
        self.all_raise((UnknownName, "x"), ["p0"], ["p2"], ["p1", "x", "y"])
        self.all_raise((UnknownName, "x"), [], [], ["x"])
        self.all_raise((UnknownName, "g"), [], ["g"], [])
        self.all_raise((UnknownName, "s"), ["s"], [], [])

    def test_unknown_names_come_before_no_cut(self):
        self.assertEqual(raised(cut, self.LAND, ["p0"], ["p2"], []), NoCut)
        self.assertEqual(raised(cut, self.LAND, ["p0"], ["p0"], ["x"]), (UnknownName, "x"))
        self.assertEqual(raised(cut, self.LAND, ["p0", "x"], ["p0"], []), (UnknownName, "x"))
        self.assertEqual(raised(cut, self.LAND, ["p0"], ["p0", "x"], []), (UnknownName, "x"))

    def test_strings_that_are_no_names(self):
        for name in STRANGE:
            self.all_raise((UnknownName, name), [name], ["p1"], ["p1"])
            self.all_raise((UnknownName, name), ["p0"], [name], ["p1"])
            self.all_raise((UnknownName, name), ["p0"], ["p1"], ["p1", name])


class ArgumentsTest(unittest.TestCase):
    """Point 1."""

    def test_arguments_are_not_changed_and_lists_are_new(self):
        land = land_of("abcd", "ab", "ac", "bd", "cd")
        told = [["a", "a"], ["d"], ["c", "b", "c"]]
        found = cut(land, *told)
        checked = [found.places, found.ways]
        before = copy.deepcopy((told, checked))
        is_kept(land, *told)
        check_cut(land, *told, *checked)
        first = single_breaks(land, told[0], told[1], ["a", "b"])
        first.append("x")
        self.assertEqual(single_breaks(land, told[0], told[1], ["a", "b"]), ["a"])
        self.assertEqual((told, checked), before)
        found.places.clear()
        found.ways.clear()
        self.assertEqual(cut(land, *told).places, ["b", "c"])

    def test_tuples_instead_of_lists(self):
        land = land_of("abcd", "ab", "ac", "bd", "cd")
        self.assertEqual(cut(land, ("a",), ("d",), ("b", "c")).places, ["b", "c"])
        self.assertIs(is_kept(land, ("a",), ("d",), ("b", "c")), True)
        self.assertEqual(single_breaks(land, ("a",), ("d",), ("a", "b")), ["a"])


if __name__ == "__main__":
    unittest.main()

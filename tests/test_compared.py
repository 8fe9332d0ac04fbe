"""Points 72 to 76: lands compared."""

import copy
import random
import time
import unittest

from everyfire.compared import burning_earlier, idle_links, is_never_slower, lean_land, needed_links
from everyfire.errors import InvalidQuestion, InvalidWeather, UnknownName
from everyfire.fires import fastest, slowest
from everyfire.lands import Land
from tests.scenes import (
    STRANGE, extreme, large_paths, large_question, line_land, raised, slow_burning, spread_question,
)

CALM = [(0, "calm")]
LINE = line_land(4, (2, 5))
START = [("p0", 0)]


def two_winds(*links, places="abc", paths=()):
    return Land(winds=["calm", "west"], places=list(places), links=links, paths=paths)


def both_fires(land, weather, starts, breaks):
    return fastest(land, weather, starts, breaks), slowest(land, weather, starts, breaks)


def slow_both(land, weather, starts, breaks):
    return [slow_burning(land, weather, starts, breaks, extreme(land, at)) for at in (0, 1)]


def slow_idle(told):
    """Return the names of the idle links, with fires that are found minute by minute."""
    fires = slow_both(*told)
    return [name for name in told[0].link_names if slow_both(told[0].without_link(name), *told[1:]) == fires]


def changed_land(chance, land):
    """Return the land with some links slower or quicker, shut or left out."""
    links = []
    for name, one, other, times in land.links:
        rows = []
        for bounds in times:
            if bounds is not None and chance.random() < 0.3:
                least = max(1, bounds[0] + chance.randint(-1, 2))
                bounds = chance.choice([None, (least, max(least, bounds[1] + chance.randint(-1, 2)))])
            rows.append(bounds)
        if chance.random() > 0.1:
            links.append((name, one, other, rows))
    return Land(winds=land.winds, places=land.places, links=links)


def quicker_land(chance, land):
    """Return the land with some links quicker, or open in more winds, and with a further link."""
    links = [("further", *chance.sample(land.places, 2), [(2, 9)] * len(land.winds))]
    for name, one, other, times in land.links:
        rows = []
        for bounds in times:
            if bounds is None:
                rows.append(chance.choice([None, (3, 9)]))
            else:
                least = chance.randint(1, bounds[0])
                rows.append((least, chance.randint(least, bounds[1])))
        links.append((name, one, other, rows))
    return Land(winds=land.winds, places=land.places, links=links)


class NeverSlowerTest(unittest.TestCase):
    """Point 72."""

    LINKS = [("ab", "a", "b", [(3, 9), None]), ("bc", "b", "c", [(2, 2), (4, 6)])]
    LAND = two_winds(*LINKS)

    def holds(self, expected, one, other):
        with self.subTest(one=one.links, other=other.links):
            self.assertIs(is_never_slower(one, other), expected)

    def test_a_land_and_itself(self):
        self.holds(True, self.LAND, self.LAND)
        self.holds(True, self.LAND, two_winds(*self.LINKS))
        self.holds(True, two_winds(), two_winds())

    def test_winds_and_places_in_other_orders(self):
        for winds, places in (
            (["west", "calm"], "abc"), (["calm", "west"], "acb"), (["calm", "west"], "abcd"), (["calm", "east"], "abc"),
            (["calm", "west", "east"], "abc"), (["calm"], "abc"), (["calm", "west"], "abd"), (["calm", "west"], "ab"),
        ):
            other = Land(winds=winds, places=list(places))
            plain = two_winds()
            for one, two in ((plain, other), (other, plain)):
                with self.subTest(winds=winds, places=places):
                    self.assertIs(is_never_slower(one, two), False)

    def test_links_more_and_less_and_in_another_order(self):
        more = self.LAND.with_link(("ca", "c", "a", [(1, 1), (1, 1)]))
        self.holds(True, more, self.LAND)
        self.holds(False, self.LAND, more)
        self.holds(True, self.LAND, two_winds(*self.LINKS[::-1]))
        self.holds(True, two_winds(*self.LINKS[::-1]), self.LAND)
        self.holds(True, self.LAND, two_winds())
        self.holds(False, two_winds(), self.LAND)

    def test_a_link_of_another_name(self):
        renamed = two_winds(("xy", "a", "b", [(1, 1), (1, 1)]), self.LINKS[1])
        self.holds(False, renamed, self.LAND)
        self.holds(False, self.LAND, renamed)

    def test_a_link_between_other_places(self):
        for one, other in (("a", "c"), ("c", "b"), ("b", "a")):
            self.holds(False, two_winds(("ab", one, other, [(1, 1), (1, 1)]), self.LINKS[1]), self.LAND)

    def test_a_wind_in_which_only_one_of_them_is_open(self):
        wider = two_winds(("ab", "a", "b", [(3, 9), (1000, 1000)]), self.LINKS[1])
        self.holds(True, wider, self.LAND)
        self.holds(False, self.LAND, wider)
        shut = two_winds(("ab", "a", "b", [None, (1, 1)]), self.LINKS[1])
        self.holds(False, shut, self.LAND)
        never = two_winds(("ab", "a", "b", [None, None]), self.LINKS[1])
        self.holds(True, never, never)
        self.holds(True, self.LAND, never)
        # A link of the other land that is shut in each wind has to be there, too.
        self.holds(False, two_winds(self.LINKS[1]), never)

    def test_bounds_that_are_equal_less_and_greater_by_one(self):
        for least, most, expected in (
            (3, 9, True), (2, 9, True), (3, 8, True), (2, 8, True), (4, 9, False), (3, 10, False), (2, 10, False), (4, 8, False),
        ):
            self.holds(expected, two_winds(("ab", "a", "b", [(least, most), None]), self.LINKS[1]), self.LAND)
        for bounds, expected in (((4, 6), True), ((5, 6), False), ((4, 7), False), ((1, 1), True)):
            self.holds(expected, two_winds(self.LINKS[0], ("bc", "b", "c", [(2, 2), bounds])), self.LAND)

    def test_paths_do_not_matter(self):
        walks = two_winds(*self.LINKS, paths=[("a", "b", 3)])
        self.holds(True, walks, self.LAND)
        self.holds(True, self.LAND, walks)
        self.holds(True, walks, two_winds(*self.LINKS, paths=[("a", "b", 2), ("b", "c", 1)]))

    def test_each_place_burns_no_later(self):
        sooner = 0
        for seed in range(100):
            chance = random.Random(seed)
            other, *told = spread_question(chance)
            one = quicker_land(chance, other)
            with self.subTest(seed=seed):
                self.assertTrue(is_never_slower(one, other))
                for fire in (fastest, slowest):
                    for first, second in zip(fire(one, *told), fire(other, *told)):
                        sooner += first != second
                        if second[1] is not None:
                            self.assertLessEqual(first[1], second[1])
        self.assertGreater(sooner, 100)


class BurningEarlierTest(unittest.TestCase):
    """Point 73."""

    def test_earlier_and_later(self):
        quick = LINE.with_link(("l1", "p1", "p2", [(1, 5)]))
        told = (CALM, START, [])
        self.assertEqual(burning_earlier(quick, LINE, *told), ["p2", "p3"])
        self.assertEqual(burning_earlier(LINE, quick, *told), [])
        self.assertEqual(burning_earlier(LINE, LINE, *told), [])

    def test_only_the_fastest_fires_count(self):
        slow = LINE.with_link(("l1", "p1", "p2", [(2, 1000)]))
        self.assertEqual(burning_earlier(LINE, slow, CALM, START, []), [])
        narrow = LINE.with_link(("l1", "p1", "p2", [(3, 3)]))
        self.assertEqual(burning_earlier(LINE, narrow, CALM, START, []), ["p2", "p3"])
        self.assertEqual(burning_earlier(narrow, LINE, CALM, START, []), [])

    def test_a_place_that_burns_in_one_land_only(self):
        cut = LINE.without_link("l2")
        self.assertEqual(burning_earlier(LINE, cut, CALM, START, []), ["p3"])
        self.assertEqual(burning_earlier(cut, LINE, CALM, START, []), [])
        self.assertEqual(burning_earlier(LINE, cut, CALM, [], []), [])
        # A break at the minute at which the fire comes in one of the lands.
        quick = LINE.with_link(("l1", "p1", "p2", [(1, 5)]))
        self.assertEqual(burning_earlier(quick, LINE, CALM, START, [("p2", 4)]), ["p2", "p3"])
        self.assertEqual(burning_earlier(quick, LINE, CALM, START, [("p2", 3)]), [])

    def test_in_the_order_of_the_places(self):
        places = ["z", "a", "m"]
        none = Land(winds=["calm"], places=places)
        one = Land(winds=["calm"], places=places, links=[("l", "m", "a", [(1, 1)]), ("k", "a", "z", [(1, 1)])])
        self.assertEqual(burning_earlier(one, none, CALM, [("m", 0)], []), ["z", "a"])

    def test_other_places_and_winds(self):
        for other in (
            line_land(3), line_land(5), line_land(4, winds=("west",)), line_land(4, winds=("calm", "west")),
            Land(winds=["calm"], places=["p1", "p0", "p2", "p3"]), Land(winds=["calm"], places=["p0", "p1", "p2", "p4"]),
        ):
            for one, two in ((LINE, other), (other, LINE)):
                for told in (
                    (CALM, START, []), ([(0, "storm")], [("moor", 0)], []), ([], START, []), (CALM, START, [("moor", 0)]),
                ):
                    self.assertEqual(raised(burning_earlier, one, two, *told), InvalidQuestion)

    def test_against_fires_that_are_found_minute_by_minute(self):
        many = 0
        for seed in range(80):
            chance = random.Random(seed)
            land, *told = spread_question(chance)
            changed = changed_land(chance, land)
            for one, other in ((land, changed), (changed, land)):
                first, second = (dict(slow_burning(each, *told, extreme(each, 0))) for each in (one, other))
                expected = [
                    place for place in one.places
                    if first[place] is not None and (second[place] is None or first[place] < second[place])
                ]
                many += len(expected)
                with self.subTest(seed=seed):
                    self.assertEqual(burning_earlier(one, other, *told), expected)
        self.assertGreater(many, 50)


class IdleLinksTest(unittest.TestCase):
    """Point 74."""

    def leaves(self, idle, lean, *told):
        with self.subTest(told=told[1:]):
            self.assertEqual(idle_links(*told), idle)
            self.assertEqual(list(lean_land(*told).link_names), lean)

    def test_no_links(self):
        self.leaves([], [], Land(winds=["calm"], places=["a"]), CALM, [("a", 0)], [])

    def test_no_fire(self):
        self.leaves(["l0", "l1", "l2"], [], LINE, CALM, [], [])
        self.leaves(["l0", "l1"], ["l2"], LINE, CALM, [("p2", 0)], [])

    def test_a_line(self):
        self.leaves([], ["l0", "l1", "l2"], LINE, CALM, START, [])
        self.leaves(["l1", "l2"], ["l0"], LINE, CALM, START, [("p2", 3)])

    def test_links_that_are_idle_only_as_long_as_another_one_is_there(self):
        links = [(name, "a", "b", [(3, 9)]) for name in ("k", "l", "m")]
        land = Land(winds=["calm"], places=["a", "b"], links=links)
        self.leaves(["k", "l", "m"], ["m"], land, CALM, [("a", 0)], [])
        # By b and by c the fire comes to d at the same minutes.
        land = Land(winds=["calm"], places=["a", "b", "c", "d"], links=[
            ("ab", "a", "b", [(2, 2)]), ("bd", "b", "d", [(3, 3)]), ("ac", "a", "c", [(1, 1)]), ("cd", "c", "d", [(4, 4)]),
        ])
        self.leaves(["bd", "cd"], ["ab", "ac", "cd"], land, CALM, [("a", 0)], [])

    def test_links_that_only_one_of_the_fires_uses(self):
        fast, slow = ("f", "a", "b", [(2, 9)]), ("s", "a", "b", [(3, 4)])
        for links in ([fast, slow], [slow, fast]):
            land = Land(winds=["calm"], places=["a", "b"], links=links)
            self.leaves([], [link[0] for link in links], land, CALM, [("a", 0)], [])
        # With a break at 3 only the fastest fire comes to b, along one of them alone; at 2 none does.
        land = Land(winds=["calm"], places=["a", "b"], links=[fast, slow])
        self.leaves(["s"], ["f"], land, CALM, [("a", 0)], [("b", 3)])
        self.leaves(["f", "s"], [], land, CALM, [("a", 0)], [("b", 2)])

    def test_links_that_only_the_slowest_fire_uses(self):
        land = Land(winds=["calm"], places=["a", "b"], links=[("f", "a", "b", [(2, 9)]), ("s", "a", "b", [(2, 4)])])
        self.leaves(["f"], ["s"], land, CALM, [("a", 0)], [])

    def test_a_place_that_burns_anyway(self):
        self.leaves(["l0"], ["l1", "l2"], LINE, CALM, [("p0", 0), ("p1", 0)], [])
        self.leaves(["l0"], ["l1", "l2"], LINE, CALM, [("p0", 0), ("p1", 2)], [])
        self.leaves([], ["l0", "l1", "l2"], LINE, CALM, [("p0", 0), ("p1", 3)], [])

    def test_the_weather_counts(self):
        land = two_winds(("k", "a", "b", [(3, 3), None]), ("l", "a", "b", [None, (3, 3)]), ("m", "b", "c", [None, None]))
        self.leaves(["l", "m"], ["k"], land, CALM, [("a", 0)], [])
        self.leaves(["k", "m"], ["l"], land, [(0, "west")], [("a", 0)], [])
        self.leaves(["k", "m"], ["l"], land, [(0, "west"), (1, "calm")], [("a", 0)], [])

    def test_the_lean_land(self):
        land = two_winds(("k", "a", "b", [(3, 4), None]), ("l", "a", "b", [(5, 6), (7, 8)]), paths=[("a", "c", 5)])
        lean = lean_land(land, CALM, [("a", 0)], [])
        self.assertIsInstance(lean, Land)
        self.assertEqual((lean.winds, lean.places, lean.paths), (land.winds, land.places, land.paths))
        self.assertEqual(lean.links, (("k", "a", "b", ((3, 4), None)),))
        self.assertEqual(land.link_names, ("k", "l"))

    def test_against_fires_that_are_found_minute_by_minute(self):
        idle = 0
        for seed in range(60):
            told = spread_question(random.Random(seed))
            expected = slow_idle(told)
            idle += len(expected)
            with self.subTest(seed=seed):
                self.assertEqual(idle_links(*told), expected)
        self.assertGreater(idle, 100)

    def test_the_lean_land_as_it_is_formed(self):
        second = 0
        for seed in range(60):
            told = spread_question(random.Random(seed))
            land = told[0]
            idle = idle_links(*told)
            while idle_links(land, *told[1:]):
                land = land.without_link(idle_links(land, *told[1:])[0])
            second += len(land.links) + len(idle) > len(told[0].links)
            lean = lean_land(*told)
            with self.subTest(seed=seed):
                self.assertEqual(lean.links, land.links)
                self.assertEqual(both_fires(lean, *told[1:]), both_fires(*told))
        self.assertGreater(second, 5)


class NeededLinksTest(unittest.TestCase):
    """Point 75."""

    def test_a_line(self):
        told = (LINE, CALM, START, [])
        self.assertEqual(needed_links(*told, "p3"), ["l0", "l1", "l2"])
        self.assertEqual(needed_links(*told, "p1"), ["l0"])

    def test_a_place_that_burns_without_any_link(self):
        self.assertEqual(needed_links(LINE, CALM, START, [], "p0"), [])
        self.assertEqual(needed_links(LINE, CALM, [("p0", 0), ("p2", 99)], [], "p2"), [])
        self.assertEqual(needed_links(LINE, CALM, [("p0", 0), ("p2", 99)], [], "p3"), ["l2"])

    def test_a_place_that_never_burns(self):
        self.assertIsNone(needed_links(LINE, CALM, [("p1", 0)], [], "p0"))
        self.assertIsNone(needed_links(LINE, CALM, [], [], "p0"))
        self.assertIsNone(needed_links(LINE, CALM, START, [("p1", 2)], "p3"))

    def test_several_ways(self):
        land = Land(winds=["calm"], places=["a", "b", "c", "d", "e"], links=[
            ("de", "d", "e", [(1, 6)]), ("ab", "a", "b", [(2, 3)]), ("ac", "a", "c", [(4, 4)]), ("bd", "b", "d", [(2, 9)]),
            ("cd", "c", "d", [(3, 3)]),
        ])
        self.assertEqual(needed_links(land, CALM, [("a", 0)], [], "e"), ["de"])
        self.assertEqual(needed_links(land, CALM, [("a", 0)], [], "d"), [])
        # The other way comes too late for the break.
        self.assertEqual(needed_links(land, CALM, [("a", 0)], [("d", 7)], "e"), ["de", "ab", "bd"])
        self.assertEqual(needed_links(land, CALM, [("a", 0)], [("d", 8)], "e"), ["de"])

    def test_only_the_fastest_fire_counts(self):
        land = Land(winds=["calm"], places=["a", "b"], links=[("f", "a", "b", [(2, 9)]), ("s", "a", "b", [(5, 5)])])
        self.assertEqual(needed_links(land, CALM, [("a", 0)], [("b", 6)], "b"), [])
        self.assertEqual(needed_links(land, CALM, [("a", 0)], [("b", 5)], "b"), ["f"])

    def test_against_fires_that_are_found_minute_by_minute(self):
        many = 0
        for seed in range(40):
            told = spread_question(random.Random(seed))
            fast = dict(slow_burning(*told, extreme(told[0], 0)))
            lands = [told[0].without_link(name) for name in told[0].link_names]
            others = [dict(slow_burning(land, *told[1:], extreme(land, 0))) for land in lands]
            for place in told[0].places:
                expected = [name for name, rows in zip(told[0].link_names, others) if rows[place] is None]
                many += fast[place] is not None and expected != []
                with self.subTest(seed=seed, place=place):
                    self.assertEqual(needed_links(*told, place), None if fast[place] is None else expected)
        self.assertGreater(many, 20)


class ErrorsTest(unittest.TestCase):
    """Points 73 and 76."""

    def test_the_order_of_the_errors(self):
        told = [
            (([(0, "storm"), (0, "gale")], [("x1", 0)], [("x2", 0)]), (UnknownName, "storm")),
            (([], [("p0", 0), ("x1", 0)], [("x2", 0)]), (UnknownName, "x1")), (([], [], [("x2", 0)]), (UnknownName, "x2")),
            (([], [], []), InvalidWeather), (([(1, "calm")], START, []), InvalidWeather),
        ]
        for arguments, error in told:
            with self.subTest(arguments=arguments):
                self.assertEqual(raised(idle_links, LINE, *arguments), error)
                self.assertEqual(raised(lean_land, LINE, *arguments), error)
                self.assertEqual(raised(needed_links, LINE, *arguments, "p1"), error)
                self.assertEqual(raised(burning_earlier, LINE, LINE, *arguments), error)
                strange = (UnknownName, "x3") if error == InvalidWeather else error
                self.assertEqual(raised(needed_links, LINE, *arguments, "x3"), strange)

    def test_strange_places(self):
        for name in STRANGE:
            self.assertEqual(raised(needed_links, LINE, CALM, [], [], name), (UnknownName, name))


class WholeTest(unittest.TestCase):
    def test_large_questions(self):
        land, weather, starts, breaks = large_question(longest=9, step=20)
        land = large_paths(land)
        begin = time.perf_counter()
        lean = lean_land(land, weather, starts, breaks)
        self.assertEqual(idle_links(lean, weather, starts, breaks), [])
        idle_links(land, weather, starts, breaks)
        needed_links(land, weather, starts, breaks, "p7")
        burning_earlier(land, lean, weather, starts, breaks)
        self.assertLess(time.perf_counter() - begin, 5)

    def test_nothing_is_modified(self):
        told = ([(0, "calm")], [("p0", 0)], [("p2", 3)])
        before = copy.deepcopy(told)
        for ask in (idle_links, lean_land):
            ask(LINE, *told)
        needed_links(LINE, *told, "p1")
        burning_earlier(LINE, LINE.without_link("l1"), *told)
        self.assertEqual(told, before)
        self.assertEqual(LINE.link_names, ("l0", "l1", "l2"))


if __name__ == "__main__":
    unittest.main()

"""Point 7 and the methods of a land."""

import unittest

from everyfire.errors import InvalidLand, UnknownName
from everyfire.lands import Land

LINKS = (
    ("up", "wood", "hill", ((2, 3), None)),
    ("down", "hill", "wood", (None, (4, 9))),
    ("away", "hill", "farm", (None, None)),
    ("down2", "hill", "wood", ((1, 1), (1000, 1000))),
)
PATHS = (("wood", "hill", 30), ("farm", "wood", 7))

# Strange names for each sort: one of something of another sort, a free one, and strings that are no names.
STRANGE_PLACES = ["up", "west", "moor", "", "Hill", "hill ", "two words"]
STRANGE_LINKS = ["hill", "west", "side", "", "Up", "up\n"]
STRANGE_WINDS = ["hill", "up", "east", "", "West", "9"]


def parts(land):
    return (land.winds, land.places, land.links, land.paths)


class LandTestCase(unittest.TestCase):
    def setUp(self):
        self.land = Land(winds=["west", "calm"], places=["hill", "wood", "farm"], links=LINKS, paths=PATHS)
        self.before = parts(self.land)

    def tearDown(self):
        self.assertEqual(parts(self.land), self.before)

    def unknown(self, name, ask, *told):
        with self.subTest(told=told), self.assertRaises(UnknownName) as caught:
            ask(*told)
        self.assertEqual(caught.exception.name, name)

    def invalid(self, ask, *told):
        with self.subTest(told=told), self.assertRaises(InvalidLand):
            ask(*told)

    def changed(self, land, **told):
        """Check that the land is the one of the test with these other parts."""
        expected = {"winds": self.land.winds, "places": self.land.places, "links": LINKS, "paths": PATHS}
        expected.update(told)
        self.assertIsInstance(land, Land)
        self.assertIsNot(land, self.land)
        self.assertEqual({name: getattr(land, name) for name in expected}, expected)


class AskingTest(LandTestCase):
    def test_link_names(self):
        self.assertEqual(self.land.link_names, ("up", "down", "away", "down2"))

    def test_check_place(self):
        for place in self.land.places:
            self.assertIsNone(self.land.check_place(place))
        for place in STRANGE_PLACES:
            self.unknown(place, self.land.check_place, place)

    def test_check_wind(self):
        for wind in self.land.winds:
            self.assertIsNone(self.land.check_wind(wind))
        for wind in STRANGE_WINDS:
            self.unknown(wind, self.land.check_wind, wind)

    def test_link(self):
        for link in LINKS:
            self.assertEqual(self.land.link(link[0]), link)
        for name in STRANGE_LINKS:
            self.unknown(name, self.land.link, name)

    def test_links_from(self):
        self.assertEqual(self.land.links_from("hill"), ["down", "away", "down2"])
        self.assertEqual(self.land.links_from("wood"), ["up"])
        self.assertEqual(self.land.links_from("farm"), [])
        for place in STRANGE_PLACES:
            self.unknown(place, self.land.links_from, place)

    def test_links_to(self):
        self.assertEqual(self.land.links_to("hill"), ["up"])
        self.assertEqual(self.land.links_to("wood"), ["down", "down2"])
        self.assertEqual(self.land.links_to("farm"), ["away"])
        for place in STRANGE_PLACES:
            self.unknown(place, self.land.links_to, place)

    def test_bounds(self):
        for name, _, _, times in LINKS:
            self.assertEqual(self.land.bounds(name, "west"), times[0])
            self.assertEqual(self.land.bounds(name, "calm"), times[1])
        for name in STRANGE_LINKS:
            self.unknown(name, self.land.bounds, name, "west")
        for wind in STRANGE_WINDS:
            self.unknown(wind, self.land.bounds, "up", wind)
        self.unknown("x", self.land.bounds, "x", "y")
        self.unknown("west", self.land.bounds, "west", "up")

    def test_walks_from(self):
        self.assertEqual(self.land.walks_from("hill"), [("wood", 30)])
        self.assertEqual(self.land.walks_from("wood"), [("hill", 30), ("farm", 7)])
        self.assertEqual(self.land.walks_from("farm"), [("wood", 7)])
        self.assertEqual(Land(winds=["w"], places=["a"]).walks_from("a"), [])
        for place in STRANGE_PLACES:
            self.unknown(place, self.land.walks_from, place)

    def test_minutes_between(self):
        self.assertEqual(self.land.minutes_between("hill", "wood"), 30)
        self.assertEqual(self.land.minutes_between("wood", "hill"), 30)
        self.assertEqual(self.land.minutes_between("wood", "farm"), 7)
        self.assertIsNone(self.land.minutes_between("hill", "farm"))
        self.assertIsNone(self.land.minutes_between("hill", "hill"))
        for place in STRANGE_PLACES:
            self.unknown(place, self.land.minutes_between, place, "hill")
            self.unknown(place, self.land.minutes_between, "hill", place)
        self.unknown("x", self.land.minutes_between, "x", "y")
        self.unknown("y", self.land.minutes_between, "y", "x")

    def test_returned_lists_are_new_ones(self):
        for ask in (self.land.links_from, self.land.links_to, self.land.walks_from):
            first = ask("wood")
            expected = list(first)
            first.clear()
            self.assertEqual(ask("wood"), expected)


class LinkChangesTest(LandTestCase):
    def test_with_a_new_link(self):
        added = ("side", "farm", "hill", ((1, 2), None))
        self.changed(self.land.with_link(added), links=(*LINKS, added))

    def test_with_a_link_in_the_place_of_another(self):
        for at, old in enumerate(LINKS):
            added = (old[0], "farm", "wood", ((8, 9), (8, 9)))
            self.changed(self.land.with_link(added), links=(*LINKS[:at], added, *LINKS[at + 1:]))

    def test_with_the_same_link(self):
        self.changed(self.land.with_link(LINKS[1]))

    def test_the_link_is_copied(self):
        times = [[1, 2], None]
        land = self.land.with_link(("side", "farm", "hill", times))
        times[0][0] = 2
        times.clear()
        self.assertEqual(land.link("side"), ("side", "farm", "hill", ((1, 2), None)))

    def test_with_wrong_links(self):
        for name in ("up", "side", "", "Up", "hill and more"):
            self.invalid(self.land.with_link, (name,))
            self.invalid(self.land.with_link, (name, "hill", "wood"))
            self.invalid(self.land.with_link, (name, "hill", "hill", (None, None)))
            self.invalid(self.land.with_link, (name, "hill", "wood", (None,)))
            self.invalid(self.land.with_link, (name, "hill", "wood", (None, (2, 1))))
            self.invalid(self.land.with_link, (name, "hill", "wood", (None, None), None))

    def test_a_strange_place_in_a_link_is_an_invalid_land(self):
        for name in ("up", "side"):
            for place in STRANGE_PLACES:
                self.invalid(self.land.with_link, (name, place, "hill", (None, None)))
                self.invalid(self.land.with_link, (name, "hill", place, (None, None)))

    def test_the_sixty_first_link(self):
        links = [(f"l{at}", "a", "b", [(1, 1)]) for at in range(60)]
        land = Land(winds=["w"], places=["a", "b"], links=links)
        self.assertEqual(len(land.with_link(("l59", "b", "a", [None])).links), 60)
        self.invalid(land.with_link, ("l60", "a", "b", [(1, 1)]))

    def test_without_link(self):
        for at, link in enumerate(LINKS):
            self.changed(self.land.without_link(link[0]), links=(*LINKS[:at], *LINKS[at + 1:]))
        for name in STRANGE_LINKS:
            self.unknown(name, self.land.without_link, name)


class PlaceChangesTest(LandTestCase):
    def test_with_place(self):
        self.changed(self.land.with_place("abbey"), places=("hill", "wood", "farm", "abbey"))
        self.changed(self.land.with_place("up"), places=("hill", "wood", "farm", "up"))
        for place in ("hill", "farm", "", "Hill", "a-b", "abcdefghijklm"):
            self.invalid(self.land.with_place, place)

    def test_the_twenty_fifth_place(self):
        land = Land(winds=["w"], places=[f"p{at}" for at in range(23)]).with_place("p23")
        self.assertEqual(land.places[-1], "p23")
        self.invalid(land.with_place, "p24")

    def test_without_place(self):
        self.changed(self.land.without_place("farm"), places=("hill", "wood"),
                     links=(LINKS[0], LINKS[1], LINKS[3]), paths=PATHS[:1])
        self.changed(self.land.without_place("hill"), places=("wood", "farm"), links=(), paths=PATHS[1:])
        self.changed(self.land.without_place("wood"), places=("hill", "farm"), links=LINKS[2:3], paths=())
        for place in STRANGE_PLACES:
            self.unknown(place, self.land.without_place, place)

    def test_without_the_last_place(self):
        land = Land(winds=["w"], places=["a"])
        self.invalid(land.without_place, "a")
        self.unknown("b", land.without_place, "b")
        self.assertEqual(land.places, ("a",))


class PathChangesTest(LandTestCase):
    def test_with_a_new_path(self):
        self.changed(self.land.with_path("hill", "farm", 1000), paths=(*PATHS, ("hill", "farm", 1000)))
        self.changed(self.land.with_path("farm", "hill", 1), paths=(*PATHS, ("farm", "hill", 1)))

    def test_with_a_path_in_the_place_of_another(self):
        self.changed(self.land.with_path("wood", "hill", 5), paths=(("wood", "hill", 5), PATHS[1]))
        self.changed(self.land.with_path("hill", "wood", 5), paths=(("hill", "wood", 5), PATHS[1]))
        self.changed(self.land.with_path("wood", "farm", 5), paths=(PATHS[0], ("wood", "farm", 5)))

    def test_with_wrong_paths(self):
        for minutes in (0, 1001, -3):
            self.invalid(self.land.with_path, "hill", "wood", minutes)
            self.invalid(self.land.with_path, "hill", "farm", minutes)
        self.invalid(self.land.with_path, "hill", "hill", 5)

    def test_with_path_and_strange_places(self):
        for place in STRANGE_PLACES:
            self.unknown(place, self.land.with_path, place, "hill", 5)
            self.unknown(place, self.land.with_path, "hill", place, 5)
            self.unknown(place, self.land.with_path, "hill", place, 0)
            self.unknown(place, self.land.with_path, place, place, 1001)
        self.unknown("x", self.land.with_path, "x", "y", 5)
        self.unknown("y", self.land.with_path, "y", "x", 0)

    def test_the_sixty_first_path(self):
        places = [f"p{at}" for at in range(24)]
        ends = [(one, other) for at, one in enumerate(places) for other in places[at + 1:]]
        land = Land(winds=["w"], places=places, paths=[(one, other, 5) for one, other in ends[:60]])
        self.assertEqual(len(land.with_path(ends[3][1], ends[3][0], 8).paths), 60)
        self.invalid(land.with_path, ends[60][0], ends[60][1], 5)

    def test_without_path(self):
        for one, other in (("wood", "hill"), ("hill", "wood")):
            self.changed(self.land.without_path(one, other), paths=PATHS[1:])
        for one, other in (("wood", "farm"), ("farm", "wood")):
            self.changed(self.land.without_path(one, other), paths=PATHS[:1])

    def test_without_a_path_that_is_not_there(self):
        self.invalid(self.land.without_path, "hill", "farm")
        self.invalid(self.land.without_path, "farm", "hill")
        self.invalid(self.land.without_path, "hill", "hill")
        for place in STRANGE_PLACES:
            self.unknown(place, self.land.without_path, place, "farm")
            self.unknown(place, self.land.without_path, "farm", place)
        self.unknown("x", self.land.without_path, "x", "y")
        self.unknown("y", self.land.without_path, "y", "x")


if __name__ == "__main__":
    unittest.main()

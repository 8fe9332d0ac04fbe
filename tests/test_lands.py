"""Points 1 to 6: names, and what a land takes and keeps."""

import copy
import unittest

from everyfire.errors import InvalidLand
from everyfire.lands import Land, is_name

LETTERS = "abcdefghijklmnopqrstuvwxyz"
WRONG_NAMES = [
    "", "abcdefghijklm", "1", "1a", "A", "Ab", "aB", "-", "-a", "a-b", "a_b", "_a", "a b", " a", "a ",
    "a\n", "\na", "a\tb", "a\t", "a.b", "\u00e4", "a\u00e4", "a\u0663", "a\u00b2", "\u0430", "a\x00",
]


def names(many):
    """Return so many different names."""
    return [f"n{at}" for at in range(many)]


def small(**parts):
    """Return a land of two winds and three places, with other parts where they are told."""
    told = {"winds": ["west", "calm"], "places": ["hill", "wood", "farm"]}
    told.update(parts)
    return Land(**told)


class NamesTest(unittest.TestCase):
    def test_names(self):
        for text in ["a", "z", "a1", "a0", "z9", "ab", "abcdefghijkl", "a23456789012", "zz9zz", *LETTERS]:
            with self.subTest(text=text):
                self.assertIs(is_name(text), True)

    def test_all_letters_and_digits_may_stand_behind_the_first(self):
        for sign in LETTERS + "0123456789":
            self.assertIs(is_name("a" + sign), True)

    def test_strings_that_are_no_names(self):
        for text in WRONG_NAMES + [*"0123456789"] + ["a" * 1000]:
            with self.subTest(text=text):
                self.assertIs(is_name(text), False)

    def test_signs_beside_the_letters_and_digits(self):
        for code in range(256):
            sign = chr(code)
            with self.subTest(sign=sign):
                self.assertIs(is_name(sign), sign in LETTERS)
                self.assertIs(is_name("a" + sign), sign in LETTERS + "0123456789")

    def test_a_land_refuses_wrong_names(self):
        for text in WRONG_NAMES:
            with self.subTest(text=text):
                with self.assertRaises(InvalidLand):
                    small(winds=["west", text])
                with self.assertRaises(InvalidLand):
                    small(places=["hill", text])
                with self.assertRaises(InvalidLand):
                    small(links=[(text, "hill", "wood", [None, None])])

    def test_one_name_for_things_of_several_sorts(self):
        land = Land(winds=["a"], places=["a", "b"], links=[("a", "a", "b", [(1, 1)])])
        self.assertEqual((land.winds, land.places, land.link_names), (("a",), ("a", "b"), ("a",)))

    def test_a_name_twice_within_one_sort(self):
        with self.assertRaises(InvalidLand):
            small(winds=["west", "west"])
        with self.assertRaises(InvalidLand):
            small(places=["hill", "wood", "hill"])
        with self.assertRaises(InvalidLand):
            small(links=[("l", "hill", "wood", [None, None]), ("l", "wood", "farm", [None, None])])


class WindsAndPlacesTest(unittest.TestCase):
    def test_how_many_winds(self):
        for many in (1, 2, 3, 4):
            self.assertEqual(Land(winds=names(many), places=["a"]).winds, tuple(names(many)))
        for many in (0, 5, 6):
            with self.subTest(many=many), self.assertRaises(InvalidLand):
                Land(winds=names(many), places=["a"])

    def test_how_many_places(self):
        for many in (1, 2, 24):
            self.assertEqual(Land(winds=["w"], places=names(many)).places, tuple(names(many)))
        for many in (0, 25, 26):
            with self.subTest(many=many), self.assertRaises(InvalidLand):
                Land(winds=["w"], places=names(many))

    def test_the_order_is_kept(self):
        land = Land(winds=["z", "b", "m"], places=["q", "a", "k"])
        self.assertEqual((land.winds, land.places), (("z", "b", "m"), ("q", "a", "k")))

    def test_no_links_and_no_paths(self):
        land = small()
        self.assertEqual((land.links, land.paths, land.link_names), ((), (), ()))


class LinksTest(unittest.TestCase):
    def refuse(self, *links):
        with self.subTest(links=links), self.assertRaises(InvalidLand):
            small(links=list(links))

    def test_how_many_links(self):
        for many in (0, 1, 59, 60):
            links = [(name, "hill", "wood", [(1, 2), None]) for name in names(many)]
            self.assertEqual(small(links=links).link_names, tuple(names(many)))
        for many in (61, 62):
            links = [(name, "hill", "wood", [(1, 2), None]) for name in names(many)]
            with self.assertRaises(InvalidLand):
                small(links=links)

    def test_ends(self):
        self.refuse(("l", "hill", "hill", [(1, 2), None]))
        self.refuse(("l", "hill", "moor", [(1, 2), None]))
        self.refuse(("l", "moor", "hill", [(1, 2), None]))
        self.refuse(("l", "moor", "moor", [(1, 2), None]))
        self.refuse(("l", "hill", "west", [(1, 2), None]))
        self.refuse(("l", "", "hill", [(1, 2), None]))

    def test_a_time_for_each_wind(self):
        for times in ([], [None], [(1, 2)], [None] * 3, [(1, 2)] * 3, [(1, 2)] * 4):
            self.refuse(("l", "hill", "wood", times))
        for many in (1, 2, 3, 4):
            times = ((1, 2),) * many
            land = Land(winds=names(many), places=["a", "b"], links=[("l", "a", "b", list(times))])
            self.assertEqual(land.links, (("l", "a", "b", times),))

    def test_shut_links(self):
        for times in ((None, None), (None, (3, 4)), ((3, 4), None)):
            land = small(links=[("l", "hill", "wood", times)])
            self.assertEqual(land.links, (("l", "hill", "wood", times),))

    def test_bounds(self):
        for bounds in ((1, 1), (1, 1000), (1000, 1000), (999, 1000), (5, 6)):
            land = small(links=[("l", "hill", "wood", [None, bounds])])
            self.assertEqual(land.bounds("l", "calm"), bounds)
        for bounds in ((0, 0), (0, 1), (0, 1000), (1, 1001), (1000, 1001), (1001, 1001), (2, 1), (1000, 1),
                       (-1, 1), (-2, -1), (1, 0), (), (1,), (1000,), (1, 2, 3), (1, 1, 1), (1, 2, 3, 4)):
            self.refuse(("l", "hill", "wood", [None, bounds]))
            self.refuse(("l", "hill", "wood", [bounds, (1, 2)]))
            self.refuse(("l", "hill", "wood", [list(bounds), None]))

    def test_several_links_between_the_same_places(self):
        links = (("l", "hill", "wood", ((1, 2), None)), ("m", "hill", "wood", ((1, 2), None)),
                 ("k", "wood", "hill", (None, (7, 9))))
        self.assertEqual(small(links=links).links, links)

    def test_how_many_parts(self):
        self.refuse(())
        self.refuse(("l",))
        self.refuse(("l", "hill"))
        self.refuse(("l", "hill", "wood"))
        self.refuse(("l", "hill", "wood", [None, None], None))
        self.refuse(("l", "hill", "wood", [None, None], 5, 6))

    def test_a_later_link_is_looked_at_too(self):
        first = ("l", "hill", "wood", [(1, 2), None])
        self.refuse(first, ("m", "hill", "hill", [(1, 2), None]))
        self.refuse(first, ("m", "hill", "wood"))
        self.refuse(first, ("m", "hill", "wood", [(1, 2), (2, 1)]))
        self.refuse(first, first)


class PathsTest(unittest.TestCase):
    def refuse(self, *paths):
        with self.subTest(paths=paths), self.assertRaises(InvalidLand):
            small(paths=list(paths))

    def test_how_many_paths(self):
        places = names(24)
        ends = [(one, other) for at, one in enumerate(places) for other in places[at + 1:]]
        for many in (0, 1, 59, 60):
            paths = tuple((one, other, 5) for one, other in ends[:many])
            self.assertEqual(Land(winds=["w"], places=places, paths=paths).paths, paths)
        for many in (61, 62):
            with self.assertRaises(InvalidLand):
                Land(winds=["w"], places=places, paths=[(one, other, 5) for one, other in ends[:many]])

    def test_minutes(self):
        for minutes in (1, 2, 999, 1000):
            self.assertEqual(small(paths=[("hill", "wood", minutes)]).paths, (("hill", "wood", minutes),))
        for minutes in (0, 1001, -1, 100000):
            self.refuse(("hill", "wood", minutes))

    def test_ends(self):
        self.refuse(("hill", "hill", 5))
        self.refuse(("hill", "moor", 5))
        self.refuse(("moor", "hill", 5))
        self.refuse(("moor", "moor", 5))
        self.refuse(("hill", "calm", 5))
        self.refuse(("hill", "", 5))

    def test_at_most_one_between_two_places(self):
        self.refuse(("hill", "wood", 5), ("hill", "wood", 5))
        self.refuse(("hill", "wood", 5), ("hill", "wood", 6))
        self.refuse(("hill", "wood", 5), ("wood", "hill", 5))
        self.refuse(("hill", "wood", 5), ("wood", "farm", 5), ("wood", "hill", 6))
        paths = (("wood", "hill", 5), ("farm", "wood", 5), ("hill", "farm", 5))
        self.assertEqual(small(paths=paths).paths, paths)

    def test_how_many_parts(self):
        self.refuse(())
        self.refuse(("hill",))
        self.refuse(("hill", "wood"))
        self.refuse(("hill", "wood", 5, 6))
        self.refuse(("hill", "farm", 5), ("hill", "wood", 5, 6))


class KeepingTest(unittest.TestCase):
    def test_later_changes_have_no_effect(self):
        bounds = [3, 4]
        times = [bounds, None]
        winds, places = ["west", "calm"], ["hill", "wood"]
        links, paths = [("l", "hill", "wood", times)], [("hill", "wood", 9)]
        land = Land(winds=winds, places=places, links=links, paths=paths)
        before = copy.deepcopy((land.winds, land.places, land.links, land.paths))
        bounds[0] = 1
        times.append(None)
        for rows in (winds, places, links, paths):
            rows.clear()
        self.assertEqual((land.winds, land.places, land.links, land.paths), before)
        self.assertEqual(land.bounds("l", "west"), (3, 4))

    def test_tuples_through_and_through(self):
        land = Land(winds=["west", "calm"], places=["hill", "wood"],
                    links=[["l", "hill", "wood", [[3, 4], None]]], paths=[["hill", "wood", 9]])
        self.assertEqual(land.winds, ("west", "calm"))
        self.assertEqual(land.places, ("hill", "wood"))
        self.assertEqual(land.links, (("l", "hill", "wood", ((3, 4), None)),))
        self.assertEqual(land.paths, (("hill", "wood", 9),))
        for rows in (land.winds, land.places, land.links, land.paths, land.link_names):
            self.assertIs(type(rows), tuple)

    def test_tuples_are_taken_as_lists_are(self):
        land = Land(winds=("west",), places=("hill", "wood"),
                    links=(("l", "hill", "wood", ((3, 4),)),), paths=(("hill", "wood", 9),))
        self.assertEqual(land.links, (("l", "hill", "wood", ((3, 4),)),))

    def test_the_orders_are_kept(self):
        links = (("z", "wood", "hill", ((1, 2), None)), ("a", "hill", "wood", ((1, 1), None)),
                 ("m", "farm", "hill", (None, None)))
        paths = (("wood", "farm", 5), ("hill", "wood", 3))
        land = small(links=links, paths=paths)
        self.assertEqual((land.links, land.paths, land.link_names), (links, paths, ("z", "a", "m")))

    def test_the_arguments_are_not_changed(self):
        told = {"winds": ["w"], "places": ["b", "a"], "links": [("l", "b", "a", [[3, 4]])], "paths": [("b", "a", 9)]}
        before = copy.deepcopy(told)
        Land(**told)
        self.assertEqual(told, before)

    def test_attributes_are_set_on_the_object(self):
        for attribute in ("winds", "places", "links", "paths"):
            self.assertIn(attribute, vars(small()))

    def test_all_arguments_are_passed_by_name(self):
        with self.assertRaises(TypeError):
            Land(["w"], ["a"])


if __name__ == "__main__":
    unittest.main()

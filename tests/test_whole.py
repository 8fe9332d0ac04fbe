"""Point 1 and the words ahead of the files in the interface, over the whole program."""

import ast
import copy
import importlib
import unittest

from everyfire.book import Book
from everyfire.cuts import Cut
from everyfire.errors import InvalidNotation, InvalidPaper, InvalidPlan, NameInUse, UnknownName
from everyfire.hands import Order
from everyfire.lands import Land
from everyfire.papers import Paper, paper
from everyfire.session import Session
from tests.scenes import large_question
from tests.test_package import INTERFACE, sources

LINKS = [("ab", "a", "b", [(2, 5), None]), ("bc", "b", "c", [(1, 1), (4, 9)]), ("ac", "a", "c", [(9, 9), [3, 3]])]
PATHS = [("a", "b", 2), ("b", "c", 3), ("c", "d", 4)]
LAND = Land(winds=["calm", "west"], places=["a", "b", "c", "d"], links=LINKS, paths=PATHS)
LESS = LAND.without_link("ab")
# A question: a weather, starts and breaks.
ASKED = ([(0, "calm"), (30, "west")], [("a", 0)], [("c", 3), ("b", 40)])
WEATHERS = [ASKED[0], [(0, "west")]]
HANDS = [("ann", "b", [("cut", 1), ("walk", "c"), ("wait", 4)]), ("bob", "d", [])]
NUMBERS = [[2, None], [1, 4], [9, 3]]
TOLD = paper(LAND, *ASKED, "b")
TEXT = "question\nwind 0 calm\nstart a 3"

# For each function of the interface the arguments of a call.
CALLS = {
    "lands": {"is_name": ("hill",)},
    "notation": {"format_land": (LAND,), "parse_land": ("winds w\nplaces a b\nlink l a b 1-2\npath a b 3",)},
    "weathers": {"check_weather": (LAND, ASKED[0]), "wind_at": (LAND, ASKED[0], 30)},
    "fires": {
        "least_numbers": (LAND,), "most_numbers": (LAND,), "check_numbers": (LAND, NUMBERS),
        "burning": (LAND, *ASKED, NUMBERS), "fastest": (LAND, *ASKED), "slowest": (LAND, *ASKED),
        "states": (LAND, *ASKED), "state_of": (LAND, *ASKED, "c"),
    },
    "papers": {"paper": (LAND, *ASKED, "c"), "check_paper": (LAND, *ASKED, "b", TOLD)},
    "sightings": {
        "denied_clears": (LAND, *ASKED, [("a", 5), ("b", 1)]), "denied_seens": (LAND, *ASKED, [("c", 5), ("b", 1)]),
        "can_be_clear": (LAND, *ASKED, [("a", 5)]), "can_be_seen": (LAND, *ASKED, [("a", 5)]),
        "contradictions": (LAND, *ASKED, [("a", 5)], [("a", 3), ("c", 3)]), "bounds_of": (LAND, *ASKED, "b"),
    },
    "keeping": {
        "last_minute": (LAND, *ASKED, "a", "b"), "last_minutes": (LAND, *ASKED, "b"), "keepers": (LAND, *ASKED, "b"),
    },
    "cuts": {
        "is_kept": (LAND, ["a"], ["c"], ["b"]), "cut": (LAND, ["a"], ["c"], ["b", "c"]),
        "check_cut": (LAND, ["a"], ["c"], ["b", "c"], ["c"], [("a", "c")]),
        "single_breaks": (LAND, ["a"], ["c"], ["b", "c"]),
    },
    "worths": {
        "worths": (LAND, *ASKED), "idle_breaks": (LAND, *ASKED), "keeps": (LAND, *ASKED, ["c"]),
        "least_offers": (LAND, *ASKED[:2], [("a", 0), ("b", 1)], ["b"]),
    },
    "hands": {
        "stays": (LAND, HANDS), "breaks_of": (LAND, HANDS), "end_of": (LAND, HANDS),
        "dangers": (LAND, *ASKED[:2], HANDS), "is_safe": (LAND, *ASKED[:2], HANDS),
        "keeps": (LAND, *ASKED[:2], HANDS, "b"), "quickest": (LAND, "a", "d"), "errand": (LAND, "a", ["c", "b"], 3),
        "best_order": (LAND, ASKED[0], [("a", 90)], "b", ["b", "c"], 3, ["b"]),
    },
    "commands": {"split_words": (" ask  k a",), "is_command": (["ask", "k", "a"],), "row_of": (["start", "a", "3"],)},
    "texts": {
        "question_text": ASKED, "parse_question": (TEXT,), "paper_text": (TOLD,), "parse_paper": ("surely\ncatch a - 0",),
        "check_text": (LAND, *ASKED, "a", "surely\ncatch a - 0"),
    },
    "compared": {
        "is_never_slower": (LAND, LESS), "burning_earlier": (LAND, LESS, *ASKED), "idle_links": (LAND, *ASKED),
        "lean_land": (LAND, *ASKED), "needed_links": (LAND, *ASKED, "b"),
    },
    "forecasts": {
        "any_weather": (LAND, *ASKED[1:]), "every_weather": (LAND, ASKED[1]), "forecast": (LAND, WEATHERS, *ASKED[1:]),
        "first_danger": (LAND, WEATHERS, *ASKED[1:], ["b", "c"]), "burnt": (LAND, *ASKED, 4), "growth": (LAND, *ASKED),
    },
    "refuges": {
        "safe_walk": (LAND, *ASKED, "b", 0), "is_safe_walk": (LAND, *ASKED, [("b", 0), ("c", 3)]),
        "last_departure": (LAND, *ASKED, "b"), "refuges": (LAND, *ASKED, 0),
    },
}


def plain(value):
    """Return the value with the fields of objects instead of the objects, so that two of them can be compared."""
    if isinstance(value, (list, tuple)):
        return [type(value).__name__, *[plain(one) for one in value]]
    if isinstance(value, dict):
        return [[plain(key), plain(one)] for key, one in value.items()]
    return plain(vars(value)) if hasattr(value, "__dict__") else value


def spoil(value):
    """Empty all lists of a value."""
    if isinstance(value, (list, tuple)):
        for one in value:
            spoil(one)
    elif hasattr(value, "__dict__"):
        for one in vars(value).values():
            spoil(one)
    if isinstance(value, list):
        value.clear()


def function_of(file, name):
    return getattr(importlib.import_module(f"everyfire.{file}"), name)


class CallsTest(unittest.TestCase):
    def each(self):
        """Tell each call of a function of the interface: its file, its function and its arguments."""
        for file, calls in CALLS.items():
            for name, arguments in calls.items():
                with self.subTest(file=file, name=name):
                    yield function_of(file, name), copy.deepcopy(arguments)

    def test_each_function_is_called_here(self):
        for file, listed in INTERFACE.items():
            names = {name for name, told in listed.items() if isinstance(told, str)}
            self.assertEqual(names, set(CALLS.get(file, {})), file)

    def test_nothing_that_is_passed_is_modified(self):
        for function, arguments in self.each():
            before = plain(arguments)
            function(*arguments)
            self.assertEqual(plain(arguments), before)

    def test_the_same_is_returned_again(self):
        for function, arguments in self.each():
            self.assertEqual(plain(function(*arguments)), plain(function(*arguments)))

    def test_lists_that_are_returned_are_new(self):
        for function, arguments in self.each():
            first = function(*arguments)
            before = plain(first)
            if not isinstance(first, Land):
                spoil(first)
            self.assertEqual(plain(function(*arguments)), before)

    def test_what_is_returned_does_not_hang_on_the_arguments(self):
        for function, arguments in self.each():
            found = function(*arguments)
            before = plain(found)
            spoil(list(arguments))
            self.assertEqual(plain(found), before)

    def test_lists_are_lists_all_through(self):
        rows = [
            ("fires", "fastest"), ("fires", "states"), ("sightings", "denied_clears"), ("sightings", "contradictions"),
            ("keeping", "last_minutes"), ("keeping", "keepers"), ("worths", "worths"), ("worths", "least_offers"),
            ("hands", "stays"), ("hands", "breaks_of"), ("hands", "dangers"), ("hands", "errand"), ("refuges", "safe_walk"),
            ("forecasts", "any_weather"), ("forecasts", "forecast"), ("forecasts", "growth"),
        ]
        for file, name in rows:
            found = function_of(file, name)(*CALLS[file][name])
            with self.subTest(file=file, name=name):
                self.assertIsInstance(found, list)
                self.assertTrue(found)
                self.assertTrue(all(isinstance(row, tuple) for row in found))
        rows = [
            ("worths", "idle_breaks"), ("cuts", "single_breaks"), ("hands", "quickest"), ("compared", "burning_earlier"),
            ("compared", "idle_links"), ("compared", "needed_links"), ("forecasts", "every_weather"), ("refuges", "refuges"),
        ]
        for file, name in rows:
            with self.subTest(file=file, name=name):
                self.assertIsInstance(function_of(file, name)(*CALLS[file][name]), list)

    def test_yes_or_no_is_true_or_false(self):
        for file, name in (
            ("lands", "is_name"), ("papers", "check_paper"), ("sightings", "can_be_clear"), ("sightings", "can_be_seen"),
            ("cuts", "is_kept"), ("cuts", "check_cut"), ("worths", "keeps"), ("hands", "is_safe"), ("hands", "keeps"),
            ("commands", "is_command"), ("texts", "check_text"), ("compared", "is_never_slower"), ("refuges", "is_safe_walk"),
        ):
            self.assertIsInstance(function_of(file, name)(*CALLS[file][name]), bool, name)


class ObjectsTest(unittest.TestCase):
    def test_attributes_are_set_when_an_object_is_created(self):
        told = [
            (LAND, {"winds", "places", "links", "paths"}), (Paper("never", [], []), {"word", "labels", "chain"}),
            (Cut([], []), {"places", "ways"}), (Order([], 0), {"places", "minute"}), (Book(), {"decided", "kept"}),
            (Session(), {"book"}), (UnknownName("a"), {"name"}), (NameInUse("a"), {"name"}), (InvalidPlan(0), {"number"}),
            (InvalidNotation(1), {"line"}), (InvalidPaper(1), {"line"}),
        ]
        for thing, names in told:
            self.assertLessEqual(names, set(vars(thing)))

    def test_lists_that_are_kept_are_copies(self):
        labels, chain, places, ways = [("a", 0)], [("a", None, 0)], ["a"], [["a", "b"]]
        kept = [Paper("maybe", labels, chain), Cut(places, ways), Order(places, 3)]
        before = plain(kept)
        ways[0].clear()
        for rows in (labels, chain, places, ways):
            rows.clear()
        self.assertEqual(plain(kept), before)

    def test_a_land_keeps_its_parts_as_tuples(self):
        self.assertEqual(LAND.links[2], ("ac", "a", "c", ((9, 9), (3, 3))))


class LimitsTest(unittest.TestCase):
    """Callers that go somewhat beyond a limit get no error for it unless a point says so."""

    def test_beyond_a_limit(self):
        late = ([(0, "calm")], [("a", 100001), ("b", 5000000)], [("c", 2000000)])
        for file, name in (
            ("fires", "fastest"), ("fires", "states"), ("worths", "worths"), ("compared", "idle_links"),
            ("compared", "lean_land"), ("forecasts", "growth"),
        ):
            self.assertIsNotNone(function_of(file, name)(LAND, *late))
        rows = [("a", at) for at in range(200)]
        self.assertEqual(function_of("fires", "fastest")(LAND, ASKED[0], rows, [])[0], ("a", 0))
        self.assertEqual(function_of("forecasts", "burnt")(LAND, *late, 9000000), (3, 3))
        self.assertEqual(function_of("forecasts", "burnt")(LAND, *late, -5), (0, 0))
        self.assertEqual(function_of("refuges", "last_departure")(LAND, *late, "a")[0], "until")
        self.assertEqual(function_of("hands", "errand")(LAND, "a", ["a"], 1001), [("cut", 1001)])

    def test_many_weathers(self):
        land, weather, starts, breaks = large_question()
        found = function_of("forecasts", "forecast")(land, [weather] * 100, starts, breaks)
        self.assertEqual(found, function_of("fires", "states")(land, weather, starts, breaks))


class ImportsTest(unittest.TestCase):
    def test_no_clock_no_random_numbers_and_no_files(self):
        for path, _, tree in sources():
            for node in ast.walk(tree):
                if isinstance(node, ast.ImportFrom):
                    self.assertIn(node.module.split(".")[0], ("everyfire", "heapq", "itertools"), path.name)
                self.assertNotIsInstance(node, ast.Import)


if __name__ == "__main__":
    unittest.main()

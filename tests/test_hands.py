"""Points 52 to 56: hands, their stays and breaks, and whether a fire can meet them."""

import copy
import itertools
import random
import unittest

from everyfire.errors import InvalidPlan, InvalidQuestion, InvalidWeather, UnknownName
from everyfire.fires import burning
from everyfire.hands import breaks_of, dangers, end_of, is_safe, keeps, stays
from everyfire.lands import Land
from tests.scenes import (
    STRANGE, extreme, raised, random_hands, random_land, random_numbers, random_paths, random_rows, random_weather,
    slow_burning,
)

CALM = [(0, "calm")]
# A fire comes from a to b in 3 to 9 minutes; hands walk from a to b, and from b to c.
LAND = Land(
    winds=["calm"], places=["a", "b", "c"], links=[("ab", "a", "b", [(3, 9)])], paths=[("a", "b", 2), ("c", "b", 5)],
)
THIRTY = [("wait", 1)] * 30


def hand(*deeds, name="ann", place="a"):
    return (name, place, list(deeds))


def plan_number(land, hands):
    """Return the number of the hand for which InvalidPlan is raised."""
    try:
        stays(land, hands)
    except InvalidPlan as error:
        return error.number
    return None


def slow_positions(land, hands, until):
    """Return where each hand is at each minute: a list of places, or None where it is on a path.

    A stay of no length is not seen here, and the minute of setting out is told as the place that is left.
    """
    rows = []
    for _, place, deeds in hands:
        told = [place]
        for word, worth in deeds:
            if word == "walk":
                told += [None] * (land.minutes_between(told[-1], worth) - 1) + [worth]
            else:
                told += [told[-1]] * worth
        rows.append(told + [told[-1]] * (until - len(told)))
    return rows


class StaysTest(unittest.TestCase):
    """Points 52 and 53."""

    def test_a_hand_that_does_nothing(self):
        self.assertEqual(stays(LAND, [hand()]), [("ann", "a", 0, None)])
        self.assertEqual(stays(LAND, [hand(place="c")]), [("ann", "c", 0, None)])
        self.assertEqual(stays(LAND, []), [])

    def test_walks_cuts_and_waits(self):
        told = [hand(("wait", 4), ("walk", "b"), ("cut", 3), ("wait", 1), ("walk", "c"), ("cut", 10))]
        self.assertEqual(stays(LAND, told), [("ann", "a", 0, 4), ("ann", "b", 6, 10), ("ann", "c", 15, None)])

    def test_a_walk_at_once_leaves_a_stay_of_no_length(self):
        told = [hand(("walk", "b"), ("walk", "c"), ("walk", "b"))]
        rows = [("ann", "a", 0, 0), ("ann", "b", 2, 2), ("ann", "c", 7, 7), ("ann", "b", 12, None)]
        self.assertEqual(stays(LAND, told), rows)

    def test_away_and_straight_back(self):
        told = [hand(("cut", 1), ("walk", "b"), ("walk", "a"), ("cut", 1))]
        self.assertEqual(stays(LAND, told), [("ann", "a", 0, 1), ("ann", "b", 3, 3), ("ann", "a", 5, None)])

    def test_a_path_leads_both_ways(self):
        self.assertEqual(stays(LAND, [hand(("walk", "b"))])[-1], ("ann", "b", 2, None))
        self.assertEqual(stays(LAND, [hand(("walk", "a"), place="b")])[-1], ("ann", "a", 2, None))
        self.assertEqual(stays(LAND, [hand(("walk", "c"), place="b")])[-1], ("ann", "c", 5, None))
        self.assertEqual(stays(LAND, [hand(("walk", "b"), place="c")])[-1], ("ann", "b", 5, None))

    def test_hand_by_hand(self):
        told = [hand(("walk", "b"), name="z"), hand(place="c", name="a1"), hand(("cut", 5), ("walk", "b"), name="m")]
        rows = [("z", "a", 0, 0), ("z", "b", 2, None), ("a1", "c", 0, None), ("m", "a", 0, 5), ("m", "b", 7, None)]
        self.assertEqual(stays(LAND, told), rows)

    def test_the_greatest_numbers_of_hands_and_deeds_and_minutes(self):
        names = ["p", "q", "r", "s", "t"]
        told = [hand(("wait", 1000), ("cut", 1), *THIRTY[2:], name=name) for name in names]
        self.assertEqual(stays(LAND, told), [(name, "a", 0, None) for name in names])
        self.assertEqual(end_of(LAND, told), 1029)

    def test_end(self):
        self.assertEqual(end_of(LAND, []), 0)
        self.assertEqual(end_of(LAND, [hand(), hand(name="bob")]), 0)
        self.assertEqual(end_of(LAND, [hand(("wait", 7))]), 7)
        self.assertEqual(end_of(LAND, [hand(("walk", "b"))]), 2)
        told = [hand(("cut", 3)), hand(("walk", "b"), ("cut", 3), name="bob"), hand(("wait", 4), name="carl")]
        self.assertEqual(end_of(LAND, told), 5)
        self.assertEqual(end_of(LAND, told[::-1]), 5)

    def test_against_where_the_hands_are_minute_by_minute(self):
        for seed in range(60):
            chance = random.Random(seed)
            land = random_paths(chance, random_land(chance))
            hands = random_hands(chance, land)
            until = end_of(land, hands) + 3
            positions = slow_positions(land, hands, until)
            with self.subTest(seed=seed):
                self.assertTrue(all(len(row) == until for row in positions))
                for (name, _, _), row in zip(hands, positions):
                    own = [stay for stay in stays(land, hands) if stay[0] == name]
                    for minute, place in enumerate(row):
                        there = {stay[1] for stay in own if stay[2] <= minute and (stay[3] is None or minute <= stay[3])}
                        self.assertEqual(there, set() if place is None else {place})


class BreaksTest(unittest.TestCase):
    """Point 55."""

    def test_a_cut_is_ready_when_its_minutes_are_over(self):
        self.assertEqual(breaks_of(LAND, [hand(("cut", 3))]), [("a", 3)])
        self.assertEqual(breaks_of(LAND, [hand(("wait", 4), ("walk", "b"), ("cut", 3))]), [("b", 9)])
        self.assertEqual(breaks_of(LAND, [hand(("cut", 1000))]), [("a", 1000)])

    def test_waits_and_walks_break_nothing(self):
        self.assertEqual(breaks_of(LAND, [hand(("wait", 3), ("walk", "b"))]), [])
        self.assertEqual(breaks_of(LAND, [hand()]), [])
        self.assertEqual(breaks_of(LAND, []), [])

    def test_one_place_cut_by_several_hands(self):
        told = [hand(("cut", 9)), hand(("cut", 4), name="bob"), hand(("cut", 6), name="carl")]
        for order in itertools.permutations(told):
            self.assertEqual(breaks_of(LAND, list(order)), [("a", 4)])

    def test_one_place_cut_several_times_by_one_hand(self):
        self.assertEqual(breaks_of(LAND, [hand(("cut", 4), ("wait", 2), ("cut", 1))]), [("a", 4)])
        self.assertEqual(breaks_of(LAND, [hand(("cut", 4), ("walk", "b"), ("walk", "a"), ("cut", 1))]), [("a", 4)])
        told = [hand(("wait", 1), ("cut", 3), ("cut", 3)), hand(("wait", 5), ("cut", 1), name="bob")]
        self.assertEqual(breaks_of(LAND, told), [("a", 4)])

    def test_in_the_order_of_the_land(self):
        told = [hand(("cut", 1), ("walk", "b"), ("cut", 1), place="c"), hand(("cut", 20), name="bob")]
        self.assertEqual(breaks_of(LAND, told), [("a", 20), ("b", 7), ("c", 1)])


class LookedAtTest(unittest.TestCase):
    """Point 54."""

    def test_too_many_hands_and_wrong_names(self):
        wrong = [
            [hand(name=name) for name in ("p", "q", "r", "s", "t", "u")],
            [hand(name="ann"), hand(place="b", name="ann")],
            [hand(name="p"), hand(name="q"), hand(name="p")],
            *[[hand(name=name)] for name in ("", "A", "two words", "1a", "a" * 13, "a_", "\u00e4")],
            [hand(), hand(name="B")],
        ]
        for hands in wrong:
            for ask in (stays, breaks_of, end_of):
                with self.subTest(hands=hands, ask=ask.__name__):
                    self.assertEqual(raised(ask, LAND, hands), InvalidQuestion)
        self.assertIsNone(raised(stays, LAND, [hand(name="a" * 12), hand(name="a1")]))

    def test_strange_places(self):
        for name in STRANGE:
            for told in ([hand(place=name)], [hand(("walk", name))], [hand(("walk", "b"), ("walk", name))]):
                for ask in (stays, breaks_of, end_of):
                    with self.subTest(told=told, ask=ask.__name__):
                        self.assertEqual(raised(ask, LAND, told), (UnknownName, name))

    def test_too_many_deeds(self):
        self.assertIsNone(raised(stays, LAND, [hand(*THIRTY)]))
        self.assertEqual(raised(stays, LAND, [hand(*THIRTY, ("wait", 1))]), InvalidQuestion)
        self.assertEqual(raised(stays, LAND, [hand(), hand(*THIRTY, ("walk", "b"), name="bob")]), InvalidQuestion)

    def test_other_words_and_minutes(self):
        for word in ("cut", "wait"):
            for minutes in (1, 1000):
                self.assertIsNone(raised(stays, LAND, [hand((word, minutes))]))
            for minutes in (0, -1, 1001, 100000):
                self.assertEqual(raised(stays, LAND, [hand((word, minutes))]), InvalidQuestion)
        for deed in (("dig", 3), ("Walk", "b"), ("", 3), ("walks", "b"), ("rest", "moor")):
            self.assertEqual(raised(stays, LAND, [hand(("wait", 1), deed)]), InvalidQuestion)

    def test_no_path(self):
        self.assertEqual(plan_number(LAND, [hand(("walk", "c"))]), 0)
        self.assertEqual(plan_number(LAND, [hand(), hand(("walk", "b"), ("walk", "c"), name="b")]), None)
        self.assertEqual(plan_number(LAND, [hand(), hand(("walk", "b"), ("walk", "a"), ("walk", "c"), name="b")]), 1)
        told = [hand(name="p"), hand(name="q"), hand(("walk", "c"), name="r"), hand(("walk", "c"), name="s")]
        self.assertEqual(plan_number(LAND, told), 2)
        self.assertEqual(plan_number(LAND, [*told[:2], hand(name="u"), hand(name="v"), told[2]]), 4)

    def test_no_path_leads_to_the_place_where_the_hand_is(self):
        self.assertEqual(plan_number(LAND, [hand(("walk", "a"))]), 0)
        self.assertEqual(plan_number(LAND, [hand(("walk", "b"), ("walk", "b"))]), 0)

    def test_names_of_hands_stand_ahead_of_strange_places(self):
        names = ("p", "q", "r", "s", "t", "u")
        self.assertEqual(raised(stays, LAND, [hand(name=name, place="moor") for name in names]), InvalidQuestion)
        self.assertEqual(raised(stays, LAND, [hand(place="moor"), hand(name="A")]), InvalidQuestion)
        self.assertEqual(raised(stays, LAND, [hand(place="moor"), hand()]), InvalidQuestion)

    def test_the_first_strange_place(self):
        told = [
            hand(("walk", "x1"), ("walk", "x2")), hand(("walk", "x4"), place="x3", name="b"),
            hand(("walk", "b"), ("walk", "x5"), name="c"), hand(place="x6", name="d"),
        ]
        for at, name in enumerate(("x1", "x3", "x5", "x6")):
            self.assertEqual(raised(stays, LAND, told[at:]), (UnknownName, name))
        self.assertEqual(raised(stays, LAND, [hand(("walk", "x2"), place="x1")]), (UnknownName, "x1"))

    def test_strange_places_stand_ahead_of_wrong_deeds_and_walks(self):
        strange = hand(("walk", "moor"), name="bob")
        for wrong in (hand(*THIRTY, ("wait", 1)), hand(("dig", 3)), hand(("cut", 0)), hand(("walk", "c"))):
            self.assertEqual(raised(stays, LAND, [wrong, strange]), (UnknownName, "moor"))
        self.assertEqual(raised(stays, LAND, [hand(*THIRTY, ("walk", "moor"))]), (UnknownName, "moor"))
        self.assertEqual(raised(stays, LAND, [hand(("dig", 3), ("cut", 0), ("walk", "moor"))]), (UnknownName, "moor"))

    def test_wrong_deeds_stand_ahead_of_walks_without_a_path(self):
        for wrong in (hand(*THIRTY, ("wait", 1), name="b"), hand(("dig", 3), name="b"), hand(("wait", 1001), name="b")):
            self.assertEqual(raised(stays, LAND, [hand(("walk", "c")), wrong]), InvalidQuestion)
        self.assertEqual(raised(stays, LAND, [hand(("walk", "c"), ("wait", 0))]), InvalidQuestion)

    def test_all_of_them_stand_ahead_of_the_errors_of_the_fire(self):
        wrong = [
            ([hand(name="A")], InvalidQuestion), ([hand(place="moor")], (UnknownName, "moor")),
            ([hand(("cut", 0))], InvalidQuestion), ([hand(("walk", "c"))], InvalidPlan),
        ]
        for hands, error in wrong:
            for weather, starts in (([(0, "storm")], []), (CALM, [("heath", 0)]), ([], [])):
                for ask in (dangers, is_safe):
                    self.assertEqual(raised(ask, LAND, weather, starts, hands), error)
                self.assertEqual(raised(keeps, LAND, weather, starts, hands, "a"), error)

    def test_the_errors_of_the_fire(self):
        for ask in (dangers, is_safe):
            told = ([(0, "storm"), (0, "gale")], [("heath", 0)])
            self.assertEqual(raised(ask, LAND, *told, [hand()]), (UnknownName, "storm"))
            self.assertEqual(raised(ask, LAND, [], [("a", 0), ("heath", 0)], [hand()]), (UnknownName, "heath"))
            self.assertEqual(raised(ask, LAND, [], [("a", 0)], [hand()]), InvalidWeather)
            self.assertEqual(raised(ask, LAND, [(1, "calm")], [("a", 0)], []), InvalidWeather)

    def test_the_place_to_be_kept_stands_ahead_of_all(self):
        for hands in ([hand(name="A")], [hand(place="heath")], [hand(("walk", "c"))], []):
            for weather in (CALM, [], [(0, "storm")]):
                self.assertEqual(raised(keeps, LAND, weather, [], hands, "moor"), (UnknownName, "moor"))
        self.assertEqual(raised(keeps, LAND, [], [("heath", 0)], [], "a"), (UnknownName, "heath"))
        self.assertEqual(raised(keeps, LAND, [], [("a", 0)], [], "a"), InvalidWeather)


class DangersTest(unittest.TestCase):
    """Point 56."""

    def meets(self, expected, minute, *deeds, place="b"):
        """The fire begins at b at the minute, and is nowhere else."""
        land = LAND.without_link("ab")
        hands = [hand(*deeds, place=place)]
        with self.subTest(minute=minute, deeds=deeds):
            self.assertEqual(dangers(land, CALM, [("b", minute)], hands), expected)
            self.assertEqual(is_safe(land, CALM, [("b", minute)], hands), expected == [])

    def test_a_fire_around_the_minute_of_coming(self):
        for minute in (0, 1, 2, 3, 6, 1000):
            self.meets([("ann", "b", max(minute, 2))], minute, ("walk", "b"), place="a")
        deeds = (("walk", "b"), ("wait", 3), ("walk", "c"))
        for minute in (0, 1, 2):
            self.meets([("ann", "b", 2)], minute, *deeds, place="a")
        self.meets([("ann", "b", 3)], 3, *deeds, place="a")

    def test_a_fire_around_the_minute_of_setting_out(self):
        deeds = (("walk", "b"), ("wait", 3), ("walk", "c"))
        self.meets([("ann", "b", 4)], 4, *deeds, place="a")
        self.meets([], 5, *deeds, place="a")
        self.meets([], 6, *deeds, place="a")

    def test_a_fire_at_the_minute_0(self):
        self.meets([("ann", "b", 0)], 0)
        self.meets([("ann", "b", 0)], 0, ("walk", "a"))
        self.meets([], 1, ("walk", "a"))
        self.meets([("ann", "b", 1)], 1, ("wait", 2), ("walk", "a"))
        self.meets([], 2, ("wait", 2), ("walk", "a"))

    def test_a_stay_of_no_length(self):
        deeds = (("walk", "b"), ("walk", "c"))
        for minute in (0, 1, 2):
            self.meets([("ann", "b", 2)], minute, *deeds, place="a")
        for minute in (3, 4):
            self.meets([], minute, *deeds, place="a")

    def test_a_fire_around_the_minute_when_a_cut_is_ready(self):
        # With the cut at 4, the place burns at 3 and no more at 4.
        self.meets([("ann", "b", 3)], 3, ("cut", 4))
        self.meets([], 4, ("cut", 4))
        self.meets([], 5, ("cut", 4))
        self.meets([], 9, ("cut", 4))

    def test_the_last_stay_has_no_end(self):
        self.meets([("ann", "b", 100000)], 100000)
        self.meets([("ann", "b", 99999)], 99999, ("wait", 1000))

    def test_several_stays_at_one_place(self):
        deeds = (("walk", "a"), ("walk", "b"), ("wait", 1), ("walk", "a"), ("walk", "b"))
        self.meets([("ann", "b", 4), ("ann", "b", 9)], 4, *deeds)
        self.meets([("ann", "b", 9)], 5, *deeds)
        self.meets([("ann", "b", 10)], 10, *deeds)
        self.meets([("ann", "b", 0), ("ann", "b", 4), ("ann", "b", 9)], 0, *deeds)

    def test_only_the_fastest_fire_counts(self):
        # The fire comes to b at 7 at the earliest, and at 13 at the latest.
        told = (LAND, CALM, [("a", 4)])
        self.assertEqual(dangers(*told, [hand(place="b")]), [("ann", "b", 7)])
        self.assertEqual(dangers(*told, [hand(("cut", 7), place="b")]), [])
        self.assertEqual(dangers(*told, [hand(("cut", 8), place="b")]), [("ann", "b", 7)])
        self.assertEqual(dangers(*told, [hand(("wait", 7), ("walk", "c"), place="b")]), [])
        self.assertEqual(dangers(*told, [hand(("wait", 8), ("walk", "c"), place="b")]), [("ann", "b", 7)])

    def test_a_hand_in_danger_still_breaks(self):
        # Bob comes to a, which burns, and is in danger; his cut at b keeps ann safe there.
        told = (LAND, CALM, [("a", 4)])
        bob = hand(("cut", 5), ("walk", "a"), name="bob", place="b")
        self.assertEqual(dangers(*told, [hand(place="b"), bob]), [("bob", "a", 7)])
        self.assertEqual(dangers(*told, [bob, hand(place="b")]), [("bob", "a", 7)])
        # A hand that is in danger from minute 0 on cuts the place of another one.
        land = LAND.with_link(("bc", "b", "c", [(1, 1)]))
        caught = hand(("walk", "b"), ("cut", 1), name="bob")
        self.assertEqual(dangers(land, CALM, [("a", 0)], [caught, hand(place="c")]), [("bob", "a", 0)])
        self.assertEqual(dangers(land, CALM, [("a", 0)], [hand(place="c")]), [("ann", "c", 4)])

    def test_in_the_order_of_stays(self):
        told = [hand(("walk", "b"), name="z"), hand(name="a1", place="b"), hand(name="m")]
        rows = [("z", "a", 0), ("z", "b", 3), ("a1", "b", 3), ("m", "a", 0)]
        self.assertEqual(dangers(LAND, CALM, [("a", 0)], told), rows)

    def test_no_hands_and_no_fire(self):
        self.assertEqual(dangers(LAND, CALM, [("a", 0)], []), [])
        self.assertTrue(is_safe(LAND, CALM, [("a", 0)], []))
        self.assertEqual(dangers(LAND, CALM, [], [hand()]), [])
        self.assertTrue(is_safe(LAND, CALM, [], [hand()]))

    def test_keeping(self):
        told = (LAND, CALM, [("a", 4)])
        # Safe and keeping.
        self.assertTrue(keeps(*told, [hand(("cut", 7), place="b")], "b"))
        self.assertTrue(keeps(*told, [hand(("cut", 7), place="b")], "c"))
        # Safe, but the place burns, in some fire or in each one.
        self.assertTrue(is_safe(*told, [hand(("cut", 7), place="b")]))
        self.assertFalse(keeps(*told, [hand(("cut", 7), place="b")], "a"))
        self.assertFalse(keeps(*told, [hand(("wait", 7), ("walk", "c"), place="b")], "b"))
        # The place never burns, but the hands are not safe.
        self.assertFalse(keeps(*told, [hand(("cut", 7), place="b"), hand(name="bob")], "b"))
        self.assertFalse(keeps(*told, [hand(name="bob")], "c"))
        self.assertTrue(keeps(*told, [], "c"))
        self.assertFalse(keeps(*told, [], "b"))

    def test_keeping_against_other_fires(self):
        # The slowest fire comes to b at 13, the fastest one at 7.
        told = (LAND, CALM, [("a", 4)])
        for minutes in (6, 7):
            self.assertTrue(keeps(*told, [hand(("cut", minutes), place="b")], "b"))
        for minutes in (8, 12, 13):
            self.assertFalse(keeps(*told, [hand(("cut", minutes), place="b")], "b"))

    def test_against_fires_that_are_found_minute_by_minute(self):
        met = kept = 0
        for seed in range(150):
            chance = random.Random(seed)
            land = random_paths(chance, random_land(chance))
            hands = random_hands(chance, land)
            weather = random_weather(chance, land)
            starts = random_rows(chance, land, 2, 25)
            fast = dict(slow_burning(land, weather, starts, breaks_of(land, hands), extreme(land, 0)))
            expected = []
            for name, place, since, until in stays(land, hands):
                there = {since, *range(since, 300 if until is None else until)}
                burnt = [minute for minute in there if fast[place] is not None and fast[place] <= minute]
                expected += [(name, place, min(burnt))] if burnt else []
            met += bool(expected)
            with self.subTest(seed=seed):
                self.assertEqual(dangers(land, weather, starts, hands), expected)
                self.assertEqual(is_safe(land, weather, starts, hands), not expected)
                for place in land.places:
                    keeping = not expected and fast[place] is None
                    kept += keeping
                    self.assertEqual(keeps(land, weather, starts, hands, place), keeping)
        self.assertTrue(20 < met < 130)
        self.assertGreater(kept, 20)

    def test_no_fire_meets_safe_hands(self):
        safe = 0
        for seed in range(200):
            chance = random.Random(seed)
            land = random_paths(chance, random_land(chance))
            hands = random_hands(chance, land)
            told = (land, random_weather(chance, land), random_rows(chance, land, 2, 25))
            if not is_safe(*told, hands):
                continue
            safe += 1
            for _ in range(5):
                burns = dict(burning(*told, breaks_of(land, hands), random_numbers(chance, land)))
                for _, place, since, until in stays(land, hands):
                    if burns[place] is not None:
                        with self.subTest(seed=seed, place=place):
                            self.assertTrue(burns[place] > since and until is not None and burns[place] >= until)
        self.assertGreater(safe, 20)


class ArgumentsTest(unittest.TestCase):
    """Point 1."""

    def test_nothing_is_modified(self):
        told = (LAND, [(0, "calm")], [("a", 4)], [hand(("cut", 5), ("walk", "a"), place="b")])
        before = copy.deepcopy(told[1:])
        for ask in (stays, breaks_of, end_of):
            ask(LAND, told[3])
        for ask in (dangers, is_safe):
            ask(*told)
        keeps(*told, "b")
        self.assertEqual(told[1:], before)

    def test_lists_are_new(self):
        hands = [hand(("cut", 5), ("walk", "a"), place="b")]
        for ask in (stays, breaks_of):
            first = ask(LAND, hands)
            self.assertIsNot(first, ask(LAND, hands))
            self.assertEqual(first, ask(LAND, hands))
        self.assertIsNot(dangers(LAND, CALM, [("a", 0)], hands), dangers(LAND, CALM, [("a", 0)], hands))


if __name__ == "__main__":
    unittest.main()

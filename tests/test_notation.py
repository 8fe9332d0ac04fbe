"""Points 8 to 10: the written form of a land."""

import random
import unittest

from everyfire.errors import InvalidLand, InvalidNotation
from everyfire.lands import Land
from everyfire.notation import format_land, parse_land

HEAD = "winds w v\nplaces a b c"
WRONG_NAMES = ["", "A", "aB", "1", "1a", "a-b", "a\tb", "-", "abcdefghijklm", "a,", "\u00e4", "a\r"]
WRONG_NUMBERS = ["", "00", "01", "007", "0000001", "1000000", "1234567", "+1", "-1", "1a", "a", "1.0", "1,0",
                 "1_0", "\u0663", "\u00b2", "1\t"]


def parts(land):
    return (land.winds, land.places, land.links, land.paths)


class WritingTest(unittest.TestCase):
    def test_line_by_line(self):
        land = Land(
            winds=["west", "calm", "n"], places=["hill", "wood", "farm"],
            links=[("l", "hill", "wood", [(5, 9), None, (1, 1)]), ("back", "wood", "hill", [None] * 3),
                   ("a2", "hill", "farm", [(10, 1000), (1000, 1000), (2, 20)])],
            paths=[("wood", "hill", 30), ("farm", "wood", 1000), ("farm", "hill", 1)])
        self.assertEqual(format_land(land).split("\n"), [
            "winds west calm n", "places hill wood farm", "link l hill wood 5-9 - 1-1",
            "link back wood hill - - -", "link a2 hill farm 10-1000 1000-1000 2-20",
            "path wood hill 30", "path farm wood 1000", "path farm hill 1"])

    def test_without_links_and_paths(self):
        self.assertEqual(format_land(Land(winds=["w"], places=["a"])), "winds w\nplaces a")

    def test_only_paths(self):
        land = Land(winds=["w"], places=["b", "a"], paths=[("a", "b", 2)])
        self.assertEqual(format_land(land), "winds w\nplaces b a\npath a b 2")

    def test_no_newline_at_the_end(self):
        links = [("l", "a", "b", [None])]
        self.assertEqual(format_land(Land(winds=["w"], places=["a", "b"], links=links))[-1], "-")


class ParsingTest(unittest.TestCase):
    def test_there_and_back(self):
        texts = [
            "winds w\nplaces a", "winds a b c d\nplaces d c b a", HEAD, HEAD + "\nlink l a b - -",
            HEAD + "\nlink l a b 1-1 1000-1000\nlink k b a - 3-4\npath c a 1000\npath a b 1",
            HEAD + "\npath c a 7", "winds link\nplaces link path winds\nlink path link winds 1-2\npath path link 3",
        ]
        for text in texts:
            with self.subTest(text=text):
                self.assertEqual(format_land(parse_land(text)), text)

    def test_parts(self):
        land = parse_land(HEAD + "\nlink l a b - 3-14\nlink k c a 1-1 -\npath b a 20")
        self.assertIsInstance(land, Land)
        self.assertEqual(parts(land), (
            ("w", "v"), ("a", "b", "c"),
            (("l", "a", "b", (None, (3, 14))), ("k", "c", "a", ((1, 1), None))), (("b", "a", 20),)))

    def test_many_lands(self):
        chance = random.Random(8)
        for _ in range(200):
            land = some_land(chance)
            self.assertEqual(parts(parse_land(format_land(land))), parts(land))


def some_land(chance):
    """Return some land that keeps all rules."""
    winds = [f"w{at}" for at in range(chance.randint(1, 4))]
    places = [f"p{at}" for at in range(chance.randint(2, 24))]
    links = []
    for at in range(chance.randint(0, 60)):
        one, other = chance.sample(places, 2)
        times = [sorted([chance.randint(1, 1000), chance.randint(1, 1000)]) for _ in winds]
        links.append((f"l{at}", one, other, [chance.choice([None, bounds]) for bounds in times]))
    ends = [(one, other) for at, one in enumerate(places) for other in places[at + 1:]]
    chance.shuffle(ends)
    paths = [(*chance.sample(pair, 2), chance.randint(1, 1000)) for pair in ends[:chance.randint(0, 60)]]
    return Land(winds=winds, places=places, links=links, paths=paths)


class FormTest(unittest.TestCase):
    def wrong(self, line, text):
        with self.subTest(text=text), self.assertRaises(InvalidNotation) as caught:
            parse_land(text)
        self.assertEqual(caught.exception.line, line)

    def wrong_third(self, line):
        """Check that this line cannot stand as the third one, nor behind further links."""
        self.wrong(3, f"{HEAD}\n{line}")
        self.wrong(3, f"{HEAD}\n{line}\n{line}")
        self.wrong(5, f"{HEAD}\nlink l a b - -\nlink k a b - -\n{line}\nlink m a b - -")
        self.wrong(4, f"{HEAD}\npath b c 5\n{line}")

    def test_the_empty_string_and_empty_lines(self):
        self.wrong(1, "")
        self.wrong(1, "\n")
        self.wrong(1, "\n" + HEAD)
        self.wrong(2, "winds w\n")
        self.wrong(2, "winds w\n\nplaces a")
        self.wrong(3, HEAD + "\n")
        self.wrong(3, HEAD + "\n\n")
        self.wrong(3, HEAD + "\n\nlink l a b - -")
        self.wrong(4, HEAD + "\nlink l a b - -\n")
        self.wrong(4, HEAD + "\nlink l a b - -\n\npath a b 3")
        self.wrong(4, HEAD + "\npath a b 3\n")

    def test_a_text_that_ends_behind_its_first_line(self):
        self.wrong(2, "winds w")
        self.wrong(2, "winds")
        self.wrong(1, "winds W")
        self.wrong(1, "places a")
        self.wrong(1, "winds ")

    def test_blanks(self):
        for line, text in ((1, " winds w\nplaces a"), (1, "winds w \nplaces a"), (1, "winds  w\nplaces a"),
                           (1, "winds \nplaces a"), (1, " "), (2, "winds w\n places a"), (2, "winds w\nplaces a "),
                           (2, "winds w\nplaces a  b"), (2, "winds w\nplaces "), (2, "winds w\n "),
                           (1, "winds\tw\nplaces a"), (2, "winds w\nplaces\ta"), (1, "winds w\r\nplaces a")):
            self.wrong(line, text)
        for line in (" link l a b - -", "link l a b - - ", "link  l a b - -", "link l a b -  -", "link l a  b - -",
                     "link l a b ", " path a b 3", "path a b 3 ", "path a  b 3", "path  a b 3", " ",
                     "link\tl a b - -", "link l a b -\t-", "path a b\t3", "path a b 3\r"):
            self.wrong_third(line)

    def test_capital_letters(self):
        self.wrong(1, "Winds w\nplaces a")
        self.wrong(1, "WINDS w\nplaces a")
        self.wrong(1, "winds W\nplaces A")
        self.wrong(2, "winds w\nPlaces a")
        self.wrong(2, "winds w\nplaces A")
        for line in ("Link l a b - -", "link L a b - -", "link l A b - -", "link l a B - -", "Path a b 3", "path A b 3"):
            self.wrong_third(line)

    def test_names(self):
        for name in WRONG_NAMES:
            self.wrong(1, f"winds {name}\nplaces a")
            self.wrong(1, f"winds w {name} v\nplaces a")
            self.wrong(2, f"winds w\nplaces {name}")
            self.wrong(2, f"winds w\nplaces a {name}")
            self.wrong_third(f"link {name} a b - -")
            self.wrong_third(f"link l {name} b - -")
            self.wrong_third(f"link l a {name} - -")
            self.wrong_third(f"path {name} b 3")
            self.wrong_third(f"path a {name} 3")

    def test_numbers(self):
        for number in WRONG_NUMBERS:
            self.wrong_third(f"link l a b {number}-9 -")
            self.wrong_third(f"link l a b - {number}-9")
            self.wrong_third(f"path a b {number}")
        for number in WRONG_NUMBERS:
            self.wrong_third(f"link l a b 1-{number} -")
        for word in ("--", "-1", "1-", "1", "1-2-3", "1--2", "1-2-", "-1-2", "1:2", "1,2", "none", "\u2013", "1\u20132"):
            self.wrong_third(f"link l a b {word} -")
            self.wrong_third(f"link l a b - {word}")
        self.wrong_third("path a b -")
        self.wrong_third("path a b 1-2")

    def test_too_many_or_too_few_words(self):
        for line in ("link", "link l", "link l a", "link l a -", "link l - -", "path", "path a", "path a b", "path a 3",
                     "path a b 3 4", "path a b c 3", "path a b 3 -", "link l a b c", "link l a b c - -"):
            self.wrong_third(line)

    def test_strange_lines(self):
        for line in ("winds w v", "places a b c", "winds", "places", "wind w", "links l a b - -", "linkl a b - -",
                     "a", "-", "3", "end", "# a"):
            self.wrong_third(line)
        self.wrong(1, "wind w\nplaces a")
        self.wrong(1, "windsw\nplaces a")
        self.wrong(2, "winds w\nplace a")
        self.wrong(2, "winds w\nplacesa")

    def test_first_lines_left_out_exchanged_or_twice(self):
        self.wrong(1, "places a b c")
        self.wrong(1, "places a b c\nwinds w v")
        self.wrong(1, "link l a b - -")
        self.wrong(1, "places a b c\nlink l a b - -")
        self.wrong(2, "winds w v\nlink l a b - -")
        self.wrong(2, "winds w v\npath a b 3")
        self.wrong(2, "winds w v\nwinds w v\nplaces a b c")
        self.wrong(3, "winds w v\nplaces a b c\nplaces a b c")

    def test_a_link_behind_a_path(self):
        self.wrong(4, HEAD + "\npath a b 3\nlink l a b - -")
        self.wrong(5, HEAD + "\nlink k a b - -\npath a b 3\nlink l a b - -\nlink m a b - -")
        self.wrong(5, HEAD + "\npath a b 3\npath a c 3\nlink l a b - -")

    def test_the_first_of_several_lines(self):
        self.wrong(1, "winds W\nplaces A\nlink L")
        self.wrong(2, "winds w\nplaces A\nlink L")
        self.wrong(3, HEAD + "\nlink l a b 1-01 -\npath a b 01")
        self.wrong(3, HEAD + "\npath a b 01\nlink l a b - -")

    def test_the_form_comes_before_the_rules_of_lands(self):
        self.wrong(4, "winds\nplaces\nlink l a a\n")
        self.wrong(4, "winds w w\nplaces a a\npath a a 0\nlink l a b -")
        self.wrong(63, "winds w\nplaces a b\n" + "\n".join(f"link l{at} a b -" for at in range(62)).replace("l60 a", "l60 A"))


class RulesTest(unittest.TestCase):
    def invalid(self, text):
        with self.subTest(text=text), self.assertRaises(InvalidLand):
            parse_land(text)

    def test_names_twice(self):
        self.invalid("winds w w\nplaces a")
        self.invalid("winds w\nplaces a b a")
        self.invalid(HEAD + "\nlink l a b - -\nlink l b a - -")

    def test_how_many_winds_and_places(self):
        self.invalid("winds\nplaces a")
        self.invalid("winds v w x y z\nplaces a")
        self.invalid("winds w\nplaces")
        self.invalid("winds\nplaces")
        self.invalid("winds w\nplaces " + " ".join(f"p{at}" for at in range(25)))

    def test_links(self):
        for line in ("link l a a - -", "link l a d - -", "link l d a - -", "link l a b", "link l a b -",
                     "link l a b - - -", "link l a b 0-1 -", "link l a b 0-0 -", "link l a b 2-1 -",
                     "link l a b - 1-1001", "link l a b - 999999-999999", "link l a b 5-0 -"):
            self.invalid(f"{HEAD}\n{line}")
            self.invalid(f"{HEAD}\nlink k a b - -\n{line}\npath a b 3")
        self.invalid(HEAD + "\n" + "\n".join(f"link l{at} a b - -" for at in range(61)))

    def test_paths(self):
        for line in ("path a a 3", "path a d 3", "path d a 3", "path a b 0", "path a b 1001", "path a b 999999"):
            self.invalid(f"{HEAD}\n{line}")
            self.invalid(f"{HEAD}\nlink k a b - -\npath c b 3\n{line}")
        self.invalid(HEAD + "\npath a b 3\npath a b 3")
        self.invalid(HEAD + "\npath a b 3\npath b c 3\npath b a 4")
        places = [f"p{at}" for at in range(24)]
        ends = [(one, other) for at, one in enumerate(places) for other in places[at + 1:]][:61]
        lines = [f"path {one} {other} 5" for one, other in ends]
        head = "winds w\nplaces " + " ".join(places) + "\n"
        self.assertEqual(len(parse_land(head + "\n".join(lines[:60])).paths), 60)
        self.invalid(head + "\n".join(lines))


if __name__ == "__main__":
    unittest.main()

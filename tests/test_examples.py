"""The examples of the interface, as they stand in the document."""

import contextlib
import doctest
import io
import unittest

EXAMPLES = {
    "lands": '''
>>> from everyfire.lands import Land
>>> links = [("l", "hill", "wood", [(5, 9), None])]
>>> land = Land(winds=["west", "calm"], places=["hill", "wood"], links=links, paths=[("wood", "hill", 30)])
>>> (land.bounds("l", "west"), land.bounds("l", "calm"), land.walks_from("hill"))
((5, 9), None, [('wood', 30)])
>>> land.without_place("wood").links
()
>>> land.with_path("hill", "hill", 3)
raises InvalidLand
''',
    "format_land": '''
>>> from everyfire.lands import Land
>>> from everyfire.notation import format_land
>>> format_land(Land(winds=["w", "v"], places=["a", "b"], links=[("l", "a", "b", [None, (2, 3)])], paths=[("b", "a", 7)]))
'winds w v\\nplaces a b\\nlink l a b - 2-3\\npath b a 7'
''',
    "parse_land": '''
>>> from everyfire.notation import parse_land
>>> parse_land("winds w\\nplaces a b\\nlink l a b")
raises InvalidLand
>>> parse_land("winds w\\nplaces a b\\nlink l a")
raises InvalidNotation
''',
    "weathers": '''
>>> from everyfire.lands import Land
>>> from everyfire.weathers import wind_at
>>> land = Land(winds=["north", "west"], places=["a"])
>>> wind_at(land, [(0, "north"), (30, "west")], 30)
'west'
''',
    "fires": '''
>>> from everyfire.fires import fastest, slowest, states
>>> from everyfire.lands import Land
>>> links = [("ab", "a", "b", [(4, 9), None]), ("bc", "b", "c", [None, (2, 3)])]
>>> land = Land(winds=["north", "west"], places=["a", "b", "c"], links=links)
>>> weather = [(0, "north"), (20, "west")]
>>> (fastest(land, weather, [("a", 0)], []), slowest(land, weather, [("a", 0)], [("b", 7)]))
([('a', 0), ('b', 4), ('c', 22)], [('a', 0), ('b', None), ('c', None)])
>>> states(land, weather, [("a", 0)], [("b", 7)])
[('a', 'surely'), ('b', 'maybe'), ('c', 'maybe')]
''',
    "papers": '''
>>> from everyfire.lands import Land
>>> from everyfire.papers import paper
>>> links = [("l1", "a", "b", [(2, 5)]), ("l2", "b", "c", [(1, 1)])]
>>> land = Land(winds=["calm"], places=["a", "b", "c"], links=links)
>>> told = paper(land, [(0, "calm")], [("a", 0)], [("c", 4)], "c")
>>> (told.word, told.labels, told.chain)
('maybe', [('a', 0), ('b', 5)], [('a', None, 0), ('b', 'l1', 2), ('c', 'l2', 3)])
''',
    "sightings": '''
>>> from everyfire.lands import Land
>>> from everyfire.sightings import contradictions
>>> land = Land(winds=["calm"], places=["a", "b"], links=[("l1", "a", "b", [(2, 5)])])
>>> contradictions(land, [(0, "calm")], [("a", 0)], [], [("b", 4), ("b", 5)], [("b", 3), ("b", 1)])
[('clear', 'b', 5), ('seen', 'b', 1), ('both', 'b', 4, 3), ('both', 'b', 4, 1), ('both', 'b', 5, 3), ('both', 'b', 5, 1)]
''',
    "keeping": '''
>>> from everyfire.keeping import last_minutes
>>> from everyfire.lands import Land
>>> links = [("l1", "a", "b", [(2, 5)]), ("l2", "b", "c", [(1, 1)])]
>>> land = Land(winds=["calm"], places=["a", "b", "c"], links=links)
>>> last_minutes(land, [(0, "calm")], [("a", 0)], [], "c")
[('a', ('until', 0)), ('b', ('until', 2)), ('c', ('until', 3))]
''',
    "cuts": '''
>>> from everyfire.cuts import cut, is_kept
>>> from everyfire.lands import Land
>>> times = [(2, 5)]
>>> links = [("l1", "hut", "wood", times), ("l2", "hut", "heath", times), ("l3", "wood", "farm", times)]
>>> land = Land(winds=["west"], places=["hut", "wood", "heath", "farm"], links=links + [("l4", "heath", "farm", times)])
>>> found = cut(land, ["hut"], ["farm"], ["wood", "heath"])
>>> (found.places, len(found.ways))
(['wood', 'heath'], 2)
>>> is_kept(land, ["hut"], ["farm"], ["wood"])
False
''',
    "worths": '''
>>> from everyfire.lands import Land
>>> from everyfire.worths import least_offers, worths
>>> land = Land(winds=["west"], places=["hut", "wood", "farm"], links=[("l1", "hut", "wood", [(2, 5)]), ("l2", "wood", "farm", [(3, 3)])])
>>> worths(land, [(0, "west")], [("hut", 0)], [("wood", 1)])
[(('wood', 'farm'), ())]
>>> least_offers(land, [(0, "west")], [("hut", 0)], [("wood", 3), ("farm", 5), ("wood", 2)], ["farm"])
[(1,), (2,)]
''',
    "hands": '''
>>> from everyfire.lands import Land
>>> from everyfire.hands import dangers
>>> land = Land(winds=["calm"], places=["a", "b"], links=[("ab", "a", "b", [(3, 9)])], paths=[("a", "b", 2)])
>>> dangers(land, [(0, "calm")], [("a", 4)], [("ann", "b", [("walk", "a"), ("wait", 1), ("walk", "b"), ("cut", 3)])])
[('ann', 'b', 7)]
''',
    "session": '''
>>> from everyfire.session import Session
>>> session = Session()
>>> session.run("land l\\nwinds calm\\nplaces a b\\nlink ab a b 3-9\\nend\\ncase k l\\nwind 0 calm\\nstart a 0\\nbreak b 5\\nend\\nstates k\\nfree k b\\nask k b")
['ok', 'ok', 'ok', 'ok', 'a: surely', 'b: maybe', 'ok', 'b: surely']
''',
    "texts": '''
>>> from everyfire.lands import Land
>>> from everyfire.texts import check_text, parse_question, question_text
>>> question_text([(0, "west")], [("hill", 3)], [("wood", 20)])
'question\\nwind 0 west\\nstart hill 3\\nbreak wood 20'
>>> parse_question("question\\nstart hill 3")
([], [('hill', 3)], [])
>>> land = Land(winds=["west"], places=["hill", "wood"], links=[("l", "hill", "wood", [(5, 9)])])
>>> check_text(land, [(0, "west")], [("hill", 3)], [], "wood", "surely\\ncatch hill - 3\\ncatch wood l 12")
True
>>> check_text(land, [(0, "west")], [("hill", 3)], [], "wood", "never\\nlabel hill 3")
False
>>> check_text(land, [(0, "west")], [("hill", 3)], [], "wood", "label hill 3")
raises InvalidPaper
''',
    "compared": '''
>>> from everyfire.compared import idle_links, is_never_slower, needed_links
>>> from everyfire.lands import Land
>>> links = [("l", "hill", "wood", [(5, 9)]), ("m", "hill", "wood", [(7, 9)])]
>>> land = Land(winds=["west"], places=["hill", "wood"], links=links)
>>> idle_links(land, [(0, "west")], [("hill", 3)], [])
['m']
>>> needed_links(land.without_link("m"), [(0, "west")], [("hill", 3)], [], "wood")
['l']
>>> (is_never_slower(land, land.without_link("m")), is_never_slower(land.without_link("m"), land))
(True, False)
''',
    "forecasts": '''
>>> from everyfire.forecasts import any_weather, burnt, every_weather
>>> from everyfire.lands import Land
>>> links = [("ab", "a", "b", [(4, 9), (6, 7)]), ("bc", "b", "c", [None, (2, 3)])]
>>> land = Land(winds=["north", "west"], places=["a", "b", "c"], links=links)
>>> any_weather(land, [("a", 1)], [])
[('a', 1), ('b', 5), ('c', 7)]
>>> every_weather(land, [("a", 1)])
['a', 'b']
>>> burnt(land, [(0, "north")], [("a", 1)], [], 8)
(1, 2)
''',
    "refuges": '''
>>> from everyfire.lands import Land
>>> from everyfire.refuges import last_departure, safe_walk
>>> links = [("l1", "a", "b", [(2, 5)])]
>>> land = Land(winds=["calm"], places=["a", "b", "c"], links=links, paths=[("b", "c", 7)])
>>> (safe_walk(land, [(0, "calm")], [("a", 0)], [], "b", 1), last_departure(land, [(0, "calm")], [("a", 0)], [], "b"))
([('b', 1), ('c', 8)], ('until', 1))
''',
}


def shown(source, names):
    """Return what the interpreter shows for a line, or the error that it raises."""
    out = io.StringIO()
    try:
        with contextlib.redirect_stdout(out):
            exec(compile(source, "<example>", "single"), names)
    except ValueError as error:
        return f"raises {type(error).__name__}\n"
    return out.getvalue()


class ExamplesTest(unittest.TestCase):
    def test_examples(self):
        for title, text in EXAMPLES.items():
            names = {}
            examples = doctest.DocTestParser().get_examples(text)
            self.assertGreater(len(examples), 1)
            for example in examples:
                with self.subTest(title=title, source=example.source):
                    self.assertEqual(shown(example.source, names), example.want)


if __name__ == "__main__":
    unittest.main()

"""The examples of the interface, as they stand in the document."""

import contextlib
import doctest
import io
import unittest

EXAMPLES = {
    "lands": '''
>>> from everyfire.lands import Land
>>> links = [("l", "hill", "wood", [(5, 9), None])]
>>> land = Land(winds=["west", "calm"], places=["hill", "wood"], links=links, paths=[("wood", "hill", 30)])
>>> (land.bounds("l", "west"), land.bounds("l", "calm"), land.walks_from("hill"))
((5, 9), None, [('wood', 30)])
>>> land.without_place("wood").links
()
>>> land.with_path("hill", "hill", 3)
raises InvalidLand
''',
    "format_land": '''
>>> from everyfire.lands import Land
>>> from everyfire.notation import format_land
>>> format_land(Land(winds=["w", "v"], places=["a", "b"], links=[("l", "a", "b", [None, (2, 3)])], paths=[("b", "a", 7)]))
'winds w v\\nplaces a b\\nlink l a b - 2-3\\npath b a 7'
''',
    "parse_land": '''
>>> from everyfire.notation import parse_land
>>> parse_land("winds w\\nplaces a b\\nlink l a b")
raises InvalidLand
>>> parse_land("winds w\\nplaces a b\\nlink l a")
raises InvalidNotation
''',
}


def shown(source, names):
    """Return what the interpreter shows for a line, or the error that it raises."""
    out = io.StringIO()
    try:
        with contextlib.redirect_stdout(out):
            exec(compile(source, "<example>", "single"), names)
    except ValueError as error:
        return f"raises {type(error).__name__}\n"
    return out.getvalue()


class ExamplesTest(unittest.TestCase):
    def test_examples(self):
        for title, text in EXAMPLES.items():
            names = {}
            examples = doctest.DocTestParser().get_examples(text)
            self.assertGreater(len(examples), 1)
            for example in examples:
                with self.subTest(title=title, source=example.source):
                    self.assertEqual(shown(example.source, names), example.want)


if __name__ == "__main__":
    unittest.main()

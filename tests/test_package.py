"""The interface's names and arguments, and the rules of form that a test can see."""

import ast
import importlib
import inspect
import pathlib
import unittest

PACKAGE = pathlib.Path(__file__).resolve().parent.parent / "everyfire"

# For each file its functions and classes, and for each class its methods, with their arguments.
INTERFACE = {
    "lands": {
        "is_name": "(text)",
        "Land": {
            "__init__": "(self, *, winds, places, links=(), paths=())",
            "link_names": "property",
            "check_place": "(self, place)", "check_wind": "(self, wind)", "link": "(self, name)",
            "links_from": "(self, place)", "links_to": "(self, place)", "bounds": "(self, name, wind)",
            "walks_from": "(self, place)", "minutes_between": "(self, one, other)",
            "with_link": "(self, link)", "without_link": "(self, name)",
            "with_place": "(self, place)", "without_place": "(self, place)",
            "with_path": "(self, one, other, minutes)", "without_path": "(self, one, other)",
        },
    },
    "notation": {"format_land": "(land)", "parse_land": "(text)"},
    "weathers": {"check_weather": "(land, weather)", "wind_at": "(land, weather, minute)"},
    "fires": {
        "least_numbers": "(land)", "most_numbers": "(land)", "check_numbers": "(land, numbers)",
        "burning": "(land, weather, starts, breaks, numbers)",
        "fastest": "(land, weather, starts, breaks)", "slowest": "(land, weather, starts, breaks)",
        "states": "(land, weather, starts, breaks)", "state_of": "(land, weather, starts, breaks, place)",
    },
    "papers": {
        "Paper": {"__init__": "(self, word, labels, chain)"},
        "paper": "(land, weather, starts, breaks, place)",
        "check_paper": "(land, weather, starts, breaks, place, told)",
    },
    "sightings": {
        "denied_clears": "(land, weather, starts, breaks, clears)",
        "denied_seens": "(land, weather, starts, breaks, seens)",
        "can_be_clear": "(land, weather, starts, breaks, clears)",
        "can_be_seen": "(land, weather, starts, breaks, seens)",
        "contradictions": "(land, weather, starts, breaks, clears, seens)",
        "bounds_of": "(land, weather, starts, breaks, place)",
    },
    "keeping": {
        "last_minute": "(land, weather, starts, breaks, broken, kept)",
        "last_minutes": "(land, weather, starts, breaks, kept)",
        "keepers": "(land, weather, starts, breaks, kept)",
    },
    "cuts": {
        "Cut": {"__init__": "(self, places, ways)"},
        "is_kept": "(land, starts, goals, places)",
        "cut": "(land, starts, goals, allowed)",
        "check_cut": "(land, starts, goals, allowed, places, ways)",
        "single_breaks": "(land, starts, goals, allowed)",
    },
    "worths": {
        "worths": "(land, weather, starts, breaks)",
        "idle_breaks": "(land, weather, starts, breaks)",
        "keeps": "(land, weather, starts, breaks, goals)",
        "least_offers": "(land, weather, starts, offers, goals, *, breaks=(), most=2)",
    },
    "hands": {
        "stays": "(land, hands)", "breaks_of": "(land, hands)", "end_of": "(land, hands)",
        "dangers": "(land, weather, starts, hands)", "is_safe": "(land, weather, starts, hands)",
        "keeps": "(land, weather, starts, hands, place)",
        "quickest": "(land, one, other)", "errand": "(land, home, order, minutes)",
        "Order": {"__init__": "(self, places, minute)"},
        "best_order": "(land, weather, starts, home, places, minutes, kept)",
    },
    "book": {
        "Book": {
            "__init__": "(self)",
            "set_land": "(self, name, land)", "remove_land": "(self, name)",
            "set_case": "(self, name, land_name, weather, starts, breaks)", "remove_case": "(self, name)",
            "add_start": "(self, name, place, minute)", "add_break": "(self, name, place, minute)",
            "drop_breaks": "(self, name, place)", "undo": "(self)", "redo": "(self)", "change_all": "(self, changes)",
            "land_names": "(self)", "case_names": "(self)", "land": "(self, name)", "case": "(self, name)",
            "answers": "(self, name)", "answer": "(self, name, place)",
        },
    },
    "commands": {"split_words": "(line)", "is_command": "(words)", "row_of": "(words)"},
    "session": {"Session": {"__init__": "(self)", "run": "(self, text)"}},
    "texts": {
        "question_text": "(weather, starts, breaks)", "parse_question": "(text)",
        "paper_text": "(told)", "parse_paper": "(text)",
        "check_text": "(land, weather, starts, breaks, place, text)",
    },
    "compared": {
        "is_never_slower": "(one, other)", "burning_earlier": "(one, other, weather, starts, breaks)",
        "idle_links": "(land, weather, starts, breaks)", "lean_land": "(land, weather, starts, breaks)",
        "needed_links": "(land, weather, starts, breaks, place)",
    },
    "forecasts": {
        "any_weather": "(land, starts, breaks)", "every_weather": "(land, starts)",
        "forecast": "(land, weathers, starts, breaks)", "first_danger": "(land, weathers, starts, breaks, places)",
        "burnt": "(land, weather, starts, breaks, minute)", "growth": "(land, weather, starts, breaks)",
    },
    "refuges": {
        "safe_walk": "(land, weather, starts, breaks, place, minute)",
        "is_safe_walk": "(land, weather, starts, breaks, rows)",
        "last_departure": "(land, weather, starts, breaks, place)", "refuges": "(land, weather, starts, breaks, minute)",
    },
}
LIBRARY = {"heapq": {"heappush", "heappop", "heapify"}, "itertools": {"permutations"}}
METHODS = set(
    "append clear copy count endswith extend find get index insert isalnum isalpha isdigit islower isspace isupper"
    " items join keys ljust lower lstrip partition pop remove replace reverse rfind rjust rpartition rsplit rstrip"
    " setdefault split splitlines startswith strip update upper values zfill".split()
)

BUILTINS = {
    "len", "range", "enumerate", "zip", "min", "max", "sum", "abs", "sorted", "reversed", "int", "str", "bool",
    "list", "tuple", "dict", "set", "isinstance", "ord", "repr", "any", "all", "divmod", "super", "property",
    "ValueError", "KeyError", "IndexError", "TypeError", "NotImplementedError", "map", "iter", "next",
}
EVERY_BUILTIN = set(dir(__import__("builtins")))
BARRED = (ast.Global, ast.AsyncFunctionDef, ast.Div, ast.Import)


def sources():
    """Return the rows (path, text, tree) of the files of the package."""
    rows = []
    for path in sorted(PACKAGE.rglob("*.py")):
        text = path.read_text(encoding="utf-8")
        rows.append((path, text, ast.parse(text)))
    return rows


def bound_by(node):
    """Return the names that a statement at module level binds."""
    if isinstance(node, (ast.FunctionDef, ast.ClassDef)):
        return [node.name]
    if isinstance(node, ast.ImportFrom):
        return [told.name for told in node.names]
    return [told.id for told in getattr(node, "targets", [])]


def inner_names(tree):
    """Return the parameters and local variables of a file."""
    functions = [node for node in ast.walk(tree) if isinstance(node, (ast.FunctionDef, ast.Lambda))]
    names = [told.arg for node in functions for told in ast.walk(node) if isinstance(told, ast.arg)]
    for node in functions:
        names += [told.id for told in ast.walk(node) if isinstance(told, ast.Name) and isinstance(told.ctx, ast.Store)]
    return names


class InterfaceTest(unittest.TestCase):
    def test_names_and_arguments(self):
        for file, listed in INTERFACE.items():
            module = importlib.import_module(f"everyfire.{file}")
            for name, told in listed.items():
                found = getattr(module, name)
                with self.subTest(file=file, name=name):
                    self.assertEqual(found.__module__, module.__name__)
                    if isinstance(told, dict):
                        self.check_methods(found, told)
                    else:
                        self.assertEqual(str(inspect.signature(found)), told)

    def check_methods(self, found, told):
        for method, signature in told.items():
            with self.subTest(method=method):
                # vars: what a base class defines is not enough.
                own = vars(found)[method]
                if signature == "property":
                    self.assertIsInstance(own, property)
                else:
                    self.assertEqual(str(inspect.signature(own)), signature)

    def test_the_package_itself_defines_nothing(self):
        self.assertEqual(ast.parse((PACKAGE / "__init__.py").read_text()).body, [])


class FormTest(unittest.TestCase):
    def test_the_folder_holds_source_files_alone(self):
        others = [path.name for path in PACKAGE.iterdir() if path.suffix != ".py" and path.name != "__pycache__"]
        self.assertEqual(others, [])

    def test_sizes_and_characters(self):
        for path, text, tree in sources():
            lines = text.split("\n")
            with self.subTest(file=path.name):
                self.assertLessEqual(len(lines), 399)
                self.assertLessEqual(max(len(line) for line in lines), 120)
                self.assertEqual([sign for sign in text if sign != "\n" and not " " <= sign <= "~"], [])
                for node in ast.walk(tree):
                    if isinstance(node, ast.FunctionDef):
                        self.assertLessEqual(node.end_lineno - node.lineno + 1, 40, node.name)

    def test_imports_come_from_the_package_alone(self):
        for path, _, tree in sources():
            for node in ast.walk(tree):
                with self.subTest(file=path.name):
                    self.assertNotIsInstance(node, ast.Import)
                    if isinstance(node, ast.ImportFrom):
                        self.assertIn(node, tree.body)
                        self.check_import(node)

    def check_import(self, node):
        for told in node.names:
            self.assertIsNone(told.asname)
            if node.module in LIBRARY:
                self.assertIn(told.name, LIBRARY[node.module])
            else:
                self.assertTrue(node.module.startswith("everyfire."))
                # A name comes from the very file that defines it.
                found = getattr(importlib.import_module(node.module), told.name)
                self.assertEqual(getattr(found, "__module__", node.module), node.module)

    def test_names_are_bound_once(self):
        for path, _, tree in sources():
            outer = [name for node in tree.body for name in bound_by(node)]
            with self.subTest(file=path.name):
                self.assertEqual(len(outer), len(set(outer)))
                self.assertEqual([name for name in inner_names(tree) if name in outer or name in EVERY_BUILTIN], [])
                self.assertFalse([name for name in outer if name in EVERY_BUILTIN])

    def test_methods_and_attributes(self):
        trees = [tree for _, _, tree in sources()]
        own = {node.name for tree in trees for node in ast.walk(tree) if isinstance(node, ast.FunctionDef)}
        attributes = [node for tree in trees for node in ast.walk(tree) if isinstance(node, ast.Attribute)]
        assigned = {node.attr for node in attributes if isinstance(node.ctx, ast.Store)}
        for node in attributes:
            with self.subTest(name=node.attr, line=node.lineno):
                self.assertIn(node.attr, METHODS | own | assigned)
        self.assertEqual(assigned & METHODS, set())

    def test_is_and_raise(self):
        for path, _, tree in sources():
            for node in ast.walk(tree):
                with self.subTest(file=path.name, line=getattr(node, "lineno", 0)):
                    if isinstance(node, ast.Compare) and isinstance(node.ops[0], (ast.Is, ast.IsNot)):
                        self.assertIsInstance(node.comparators[0], ast.Constant)
                    if isinstance(node, ast.Raise) and node.exc is not None:
                        self.assertIsInstance(node.exc, ast.Call)
                        self.assertIsInstance(node.exc.func, ast.Name)

    def test_statements_and_builtins(self):
        for path, _, tree in sources():
            for node in ast.walk(tree):
                with self.subTest(file=path.name, line=getattr(node, "lineno", 0)):
                    self.check_node(node)

    def check_node(self, node):
        self.assertNotIsInstance(node, BARRED)
        if isinstance(node, ast.Constant):
            self.assertNotIsInstance(node.value, float)
        if isinstance(node, ast.Name) and node.id in EVERY_BUILTIN:
            self.assertIn(node.id, BUILTINS)
            self.assertIsInstance(node.ctx, ast.Load)
        if isinstance(node, ast.arg):
            self.assertNotIn(node.arg, EVERY_BUILTIN)
        if isinstance(node, ast.FunctionDef):
            self.assertIn([ast.unparse(one) for one in node.decorator_list], ([], ["property"]))


if __name__ == "__main__":
    unittest.main()

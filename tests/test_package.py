"""The interface's names and arguments, and the rules of form that a test can see."""

import ast
import importlib
import inspect
import pathlib
import unittest

PACKAGE = pathlib.Path(__file__).resolve().parent.parent / "everyfire"

# For each file its functions and classes, and for each class its methods, with their arguments.
INTERFACE = {
    "lands": {
        "is_name": "(text)",
        "Land": {
            "__init__": "(self, *, winds, places, links=(), paths=())",
            "link_names": "property",
            "check_place": "(self, place)", "check_wind": "(self, wind)", "link": "(self, name)",
            "links_from": "(self, place)", "links_to": "(self, place)", "bounds": "(self, name, wind)",
            "walks_from": "(self, place)", "minutes_between": "(self, one, other)",
            "with_link": "(self, link)", "without_link": "(self, name)",
            "with_place": "(self, place)", "without_place": "(self, place)",
            "with_path": "(self, one, other, minutes)", "without_path": "(self, one, other)",
        },
    },
    "notation": {"format_land": "(land)", "parse_land": "(text)"},
}

BUILTINS = {
    "len", "range", "enumerate", "zip", "min", "max", "sum", "abs", "sorted", "reversed", "int", "str", "bool",
    "list", "tuple", "dict", "set", "isinstance", "ord", "repr", "any", "all", "divmod", "super", "property",
    "ValueError", "KeyError", "IndexError", "TypeError", "NotImplementedError", "map", "iter", "next",
}
EVERY_BUILTIN = set(dir(__import__("builtins")))
BARRED = (ast.Global, ast.AsyncFunctionDef, ast.Div, ast.Import)


def sources():
    """Return the rows (path, text, tree) of the files of the package."""
    rows = []
    for path in sorted(PACKAGE.rglob("*.py")):
        text = path.read_text(encoding="utf-8")
        rows.append((path, text, ast.parse(text)))
    return rows


class InterfaceTest(unittest.TestCase):
    def test_names_and_arguments(self):
        for file, listed in INTERFACE.items():
            module = importlib.import_module(f"everyfire.{file}")
            for name, told in listed.items():
                found = getattr(module, name)
                with self.subTest(file=file, name=name):
                    self.assertEqual(found.__module__, module.__name__)
                    if isinstance(told, dict):
                        self.check_methods(found, told)
                    else:
                        self.assertEqual(str(inspect.signature(found)), told)

    def check_methods(self, found, told):
        for method, signature in told.items():
            with self.subTest(method=method):
                # vars: what a base class defines is not enough.
                own = vars(found)[method]
                if signature == "property":
                    self.assertIsInstance(own, property)
                else:
                    self.assertEqual(str(inspect.signature(own)), signature)

    def test_the_package_itself_defines_nothing(self):
        self.assertEqual(ast.parse((PACKAGE / "__init__.py").read_text()).body, [])


class FormTest(unittest.TestCase):
    def test_the_folder_holds_source_files_alone(self):
        others = [path.name for path in PACKAGE.iterdir() if path.suffix != ".py" and path.name != "__pycache__"]
        self.assertEqual(others, [])

    def test_sizes_and_characters(self):
        for path, text, tree in sources():
            lines = text.split("\n")
            with self.subTest(file=path.name):
                self.assertLessEqual(len(lines), 399)
                self.assertLessEqual(max(len(line) for line in lines), 120)
                self.assertEqual([sign for sign in text if sign != "\n" and not " " <= sign <= "~"], [])
                for node in ast.walk(tree):
                    if isinstance(node, ast.FunctionDef):
                        self.assertLessEqual(node.end_lineno - node.lineno + 1, 40, node.name)

    def test_imports_come_from_the_package_alone(self):
        for path, _, tree in sources():
            for node in ast.walk(tree):
                with self.subTest(file=path.name):
                    self.assertNotIsInstance(node, ast.Import)
                    if isinstance(node, ast.ImportFrom):
                        self.assertTrue(node.module.startswith("everyfire."))
                        self.assertIn(node, tree.body)

    def test_statements_and_builtins(self):
        for path, _, tree in sources():
            for node in ast.walk(tree):
                with self.subTest(file=path.name, line=getattr(node, "lineno", 0)):
                    self.check_node(node)

    def check_node(self, node):
        self.assertNotIsInstance(node, BARRED)
        if isinstance(node, ast.Constant):
            self.assertNotIsInstance(node.value, float)
        if isinstance(node, ast.Name) and node.id in EVERY_BUILTIN:
            self.assertIn(node.id, BUILTINS)
            self.assertIsInstance(node.ctx, ast.Load)
        if isinstance(node, ast.arg):
            self.assertNotIn(node.arg, EVERY_BUILTIN)
        if isinstance(node, ast.FunctionDef):
            self.assertIn([ast.unparse(one) for one in node.decorator_list], ([], ["property"]))


if __name__ == "__main__":
    unittest.main()

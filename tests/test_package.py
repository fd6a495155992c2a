"""The form of the package: what can be measured of its files."""

import ast
import pathlib
import unittest

PACKAGE = pathlib.Path(__file__).resolve().parent.parent / "askmark"
FILES = sorted(PACKAGE.glob("*.py"))

# What the interface lists, by file: classes without arguments, and others with them.
INTERFACE = {
    "errors.py": {"AskError": None, "BadPiece": None, "BadName": None, "TooTall": None},
    "pieces.py": {"checked": ["piece"]},
    "marks.py": {"marks": ["piece"]},
    "steps.py": {
        "put_in": ["piece", "name", "number"],
        "stands_at": ["piece"],
        "step": ["piece"],
        "answered": ["piece", "number"],
        "by_steps": ["piece", "lines", "coins"],
    },
    "carrying.py": {"Run": None, "carried": ["piece", "lines", "coins"]},
}


def tree_of(file):
    return ast.parse(file.read_text(encoding="utf-8"))


def arguments_of(node):
    """The arguments of a function that has plain ones without default values alone; None of a class."""
    if isinstance(node, ast.ClassDef):
        return None
    told = [argument.arg for argument in node.args.args]
    return told if ast.unparse(node.args) == ", ".join(told) else ast.unparse(node.args)


def defined_in(body):
    """The functions and classes that are defined there, with their arguments."""
    return {node.name: arguments_of(node) for node in body if isinstance(node, (ast.FunctionDef, ast.ClassDef))}


class PackageTest(unittest.TestCase):
    def test_one_folder_of_python_files(self):
        there = sorted(path for path in PACKAGE.iterdir() if path.name != "__pycache__")
        self.assertEqual(there, FILES)
        self.assertIn(PACKAGE / "__init__.py", FILES)

    def test_the_interface_is_defined_in_its_files(self):
        for name, listed in INTERFACE.items():
            defined = defined_in(tree_of(PACKAGE / name).body)
            with self.subTest(file=name):
                self.assertEqual({word: defined.get(word, "missing") for word in listed}, listed)

    def test_what_a_run_has_is_defined_in_its_class(self):
        run = next(node for node in tree_of(PACKAGE / "carrying.py").body if isinstance(node, ast.ClassDef))
        self.assertEqual((run.name, run.bases), ("Run", []))
        defined = defined_in(run.body)
        self.assertEqual((defined["__init__"], defined["go_on"]), (["self", "piece"], ["self", "number"]))

    def test_plain_characters_and_sizes(self):
        for file in FILES:
            text = file.read_text(encoding="utf-8")
            with self.subTest(file=file.name):
                self.assertTrue(all(sign == "\n" or " " <= sign <= "~" for sign in text))
                self.assertLessEqual(len(text.splitlines()), 399)
                self.assertLessEqual(max(map(len, text.splitlines())), 120)

    def test_small_functions(self):
        for file in FILES:
            for node in ast.walk(tree_of(file)):
                if isinstance(node, ast.FunctionDef):
                    with self.subTest(file=file.name, function=node.name):
                        self.assertLessEqual(node.end_lineno - node.lineno + 1, 40)

    def test_nothing_from_outside_is_imported(self):
        for file in FILES:
            for node in ast.walk(tree_of(file)):
                with self.subTest(file=file.name):
                    self.assertNotIsInstance(node, ast.Import)
                    if isinstance(node, ast.ImportFrom):
                        self.assertEqual((node.module.split(".")[0], node.level), ("askmark", 0))


if __name__ == "__main__":
    unittest.main()

"""The form of the package: what can be measured of its files."""

import ast
import pathlib
import unittest

PACKAGE = pathlib.Path(__file__).resolve().parent.parent / "askmark"
FILES = sorted(PACKAGE.glob("*.py"))

# What the interface lists, by file.
INTERFACE = {
    "errors.py": ["AskError", "BadPiece", "BadName", "TooTall"],
    "pieces.py": ["checked"],
}


def tree_of(file):
    return ast.parse(file.read_text(encoding="utf-8"))


class PackageTest(unittest.TestCase):
    def test_one_folder_of_python_files(self):
        there = sorted(path for path in PACKAGE.iterdir() if path.name != "__pycache__")
        self.assertEqual(there, FILES)
        self.assertIn(PACKAGE / "__init__.py", FILES)

    def test_the_interface_is_defined_in_its_files(self):
        for name, listed in INTERFACE.items():
            defined = [node.name for node in tree_of(PACKAGE / name).body
                       if isinstance(node, (ast.FunctionDef, ast.ClassDef))]
            with self.subTest(file=name):
                self.assertEqual([word for word in listed if word not in defined], [])

    def test_plain_characters_and_sizes(self):
        for file in FILES:
            text = file.read_text(encoding="utf-8")
            with self.subTest(file=file.name):
                self.assertTrue(all(sign == "\n" or " " <= sign <= "~" for sign in text))
                self.assertLessEqual(len(text.splitlines()), 399)
                self.assertLessEqual(max(map(len, text.splitlines())), 120)

    def test_small_functions(self):
        for file in FILES:
            for node in ast.walk(tree_of(file)):
                if isinstance(node, ast.FunctionDef):
                    with self.subTest(file=file.name, function=node.name):
                        self.assertLessEqual(node.end_lineno - node.lineno + 1, 40)

    def test_nothing_from_outside_is_imported(self):
        for file in FILES:
            for node in ast.walk(tree_of(file)):
                with self.subTest(file=file.name):
                    self.assertNotIsInstance(node, ast.Import)
                    if isinstance(node, ast.ImportFrom):
                        self.assertEqual((node.module.split(".")[0], node.level), ("askmark", 0))


if __name__ == "__main__":
    unittest.main()

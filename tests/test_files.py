"""The form of the package's files, as far as it can be counted."""

import ast
import os
import unittest

PACKAGE = os.path.join(os.path.dirname(os.path.dirname(os.path.abspath(__file__))), "stagecuts")
LIBRARY = ("heapq", "math", "itertools", "collections")


def names_of_files():
    return [name for name in sorted(os.listdir(PACKAGE)) if name != "__pycache__"]


def text_of(name):
    with open(os.path.join(PACKAGE, name), encoding="utf-8", newline="") as file:
        return file.read()


class FilesTest(unittest.TestCase):
    def test_the_folder_holds_python_files_alone(self):
        names = names_of_files()
        self.assertIn("__init__.py", names)
        self.assertEqual([name for name in names if not name.endswith(".py")], [])

    def test_signs_and_sizes(self):
        for name in names_of_files():
            text = text_of(name)
            self.assertTrue(all(sign == "\n" or " " <= sign <= "~" for sign in text), name)
            lines = text.split("\n")
            self.assertLessEqual(len(lines), 399, name)
            self.assertLessEqual(max(len(line) for line in lines), 120, name)

    def test_functions_are_short(self):
        for name in names_of_files():
            for node in ast.walk(ast.parse(text_of(name))):
                if isinstance(node, ast.FunctionDef):
                    self.assertLessEqual(node.end_lineno - node.lineno + 1, 40, node.name)

    def test_imports(self):
        for name in names_of_files():
            for node in ast.walk(ast.parse(text_of(name))):
                self.assertNotIsInstance(node, ast.Import, name)
                if isinstance(node, ast.ImportFrom):
                    own = node.module.startswith("stagecuts.")
                    self.assertTrue(own or node.module in LIBRARY, (name, node.module))


if __name__ == "__main__":
    unittest.main()

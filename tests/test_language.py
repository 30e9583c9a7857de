"""Sizes, characters and imports of the files of the package."""

import ast
import pathlib
import unittest

PACKAGE = pathlib.Path(__file__).resolve().parent.parent / "namesone"
FILES = sorted(PACKAGE.rglob("*.py"))
LIBRARY = ("heapq", "math", "itertools")
BARRED = (ast.Global, ast.AsyncFunctionDef, ast.Await, ast.Import)


class LanguageTest(unittest.TestCase):
    def test_the_folder_holds_python_files_only(self):
        others = [path for path in PACKAGE.rglob("*") if path.is_file() and path.suffix not in (".py", ".pyc")]
        self.assertEqual(others, [])
        self.assertTrue(FILES)

    def test_lines_and_characters(self):
        for path in FILES:
            text = path.read_bytes().decode("ascii")
            lines = text.split("\n")
            self.assertLessEqual(len(lines), 399, path.name)
            self.assertEqual([line for line in lines if len(line) > 120], [], path.name)
            self.assertEqual([mark for mark in text if not (" " <= mark <= "~" or mark == "\n")], [], path.name)

    def test_sizes_of_functions(self):
        for path in FILES:
            for node in ast.walk(ast.parse(path.read_text())):
                if isinstance(node, ast.FunctionDef):
                    self.assertLessEqual(node.end_lineno - node.lineno + 1, 40, node.name)

    def test_statements_and_imports(self):
        for path in FILES:
            for node in ast.walk(ast.parse(path.read_text())):
                self.assertNotIsInstance(node, BARRED, path.name)
                if isinstance(node, ast.ImportFrom):
                    top = node.module.split(".")[0]
                    self.assertTrue(top == "namesone" or node.module in LIBRARY, path.name)
                    self.assertEqual(node.level, 0, path.name)


if __name__ == "__main__":
    unittest.main()

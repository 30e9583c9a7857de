"""Sizes, characters and imports of the files of the package."""

import ast
import builtins
import pathlib
import unittest

PACKAGE = pathlib.Path(__file__).resolve().parent.parent / "namesone"
FILES = sorted(PACKAGE.rglob("*.py"))
LIBRARY = ("heapq", "math", "itertools")
BARRED = (ast.Global, ast.AsyncFunctionDef, ast.Await, ast.Import)
BUILTINS = (
    "len range enumerate zip min max sum abs sorted reversed int str bool bytes list tuple dict set frozenset "
    "isinstance ord repr any all divmod property classmethod staticmethod super iter next map "
    "Exception ValueError TypeError KeyError IndexError LookupError OverflowError RuntimeError").split()
METHODS = (
    "append clear copy count endswith extend find get index insert isalnum isalpha isdigit islower isspace isupper "
    "items join keys ljust lower lstrip partition pop remove replace reverse rfind rjust rpartition rsplit rstrip "
    "setdefault split splitlines startswith strip update upper values zfill bit_length add discard").split()
WORDS = "__init__ __eq__ __repr__ __str__ __len__ __call__ __contains__ __enter__ __exit__ __iter__".split()
NOT_NAMES = "type enum typing dataclass register mro elements open input law eval exec id os sys".split()


class LanguageTest(unittest.TestCase):
    def test_the_folder_holds_python_files_only(self):
        others = [path for path in PACKAGE.rglob("*") if path.is_file() and path.suffix not in (".py", ".pyc")]
        self.assertEqual(others, [])
        self.assertTrue(FILES)

    def test_lines_and_characters(self):
        for path in FILES:
            text = path.read_bytes().decode("ascii")
            lines = text.split("\n")
            self.assertLessEqual(len(lines), 399, path.name)
            self.assertEqual([line for line in lines if len(line) > 120], [], path.name)
            self.assertEqual([mark for mark in text if not (" " <= mark <= "~" or mark == "\n")], [], path.name)

    def test_sizes_of_functions(self):
        for path in FILES:
            for node in ast.walk(ast.parse(path.read_text())):
                if isinstance(node, ast.FunctionDef):
                    self.assertLessEqual(node.end_lineno - node.lineno + 1, 40, node.name)

    def test_statements_and_imports(self):
        for path in FILES:
            for node in ast.walk(ast.parse(path.read_text())):
                self.assertNotIsInstance(node, BARRED, path.name)
                if isinstance(node, ast.ImportFrom):
                    top = node.module.split(".")[0]
                    self.assertTrue(top == "namesone" or node.module in LIBRARY, path.name)
                    self.assertEqual(node.level, 0, path.name)

    def test_builtins_methods_and_comparisons(self):
        trees = {path: ast.parse(path.read_text()) for path in FILES}
        nodes = [(path.name, node) for path, tree in trees.items() for node in ast.walk(tree)]
        own = {node.name for _, node in nodes if isinstance(node, (ast.FunctionDef, ast.ClassDef))}
        for name, node in nodes:
            if isinstance(node, ast.Name):
                self.assertFalse(hasattr(builtins, node.id) and node.id not in BUILTINS, (name, node.id))
                self.assertNotIn(node.id, NOT_NAMES, name)
            if isinstance(node, ast.Call) and isinstance(node.func, ast.Attribute):
                self.assertIn(node.func.attr, own.union(METHODS), name)
            if isinstance(node, ast.FunctionDef) and node.name.startswith("__"):
                self.assertIn(node.name, WORDS, name)
            if isinstance(node, ast.Compare) and isinstance(node.ops[0], (ast.Is, ast.IsNot)):
                self.assertIsInstance(node.comparators[0], ast.Constant, name)
            if isinstance(node, ast.Constant) and isinstance(node.value, (str, bytes)):
                self.assertNotIn("%", str(node.value), name)
            self.assertNotIsInstance(node, (ast.GeneratorExp, ast.Div, ast.Set, ast.SetComp), name)

    def test_no_files_import_from_each_other(self):
        links = {}
        for path in FILES:
            found = [node.module for node in ast.walk(ast.parse(path.read_text())) if isinstance(node, ast.ImportFrom)]
            links["namesone." + path.stem] = [module for module in found if module.startswith("namesone.")]
        while links:
            free = [module for module, others in links.items() if not set(others) & set(links)]
            self.assertTrue(free, links)
            for module in free:
                del links[module]


if __name__ == "__main__":
    unittest.main()

"""The rules of the Python subset that can be seen in the files of the package."""

import ast
import builtins
import io
import pathlib
import re
import tokenize
import unittest

from namesone import errors

PACKAGE = pathlib.Path(__file__).resolve().parent.parent / "namesone"
FILES = sorted(PACKAGE.rglob("*.py"))
TREES = {path: ast.parse(path.read_text()) for path in FILES}
NODES = [(path, node) for path, tree in TREES.items() for node in ast.walk(tree)]
FUNCTIONS = [(path, node) for path, node in NODES if isinstance(node, ast.FunctionDef)]
CLASSES = [(path, node) for path, node in NODES if isinstance(node, ast.ClassDef)]
PARENTS = {child: node for _, node in NODES for child in ast.iter_child_nodes(node)}
OWN = {node.name for _, node in FUNCTIONS + CLASSES}
OWN_ERRORS = {name for name in vars(errors) if isinstance(vars(errors)[name], type)}
LIBRARY = {
    "heapq": "heappush heappop heapify heapreplace heappushpop", "math": "gcd lcm isqrt comb perm factorial",
    "itertools": "product combinations permutations"}
BARRED = (
    ast.Global, ast.AsyncFunctionDef, ast.AsyncFor, ast.AsyncWith, ast.Await, ast.Import, ast.GeneratorExp, ast.Div,
    ast.Set, ast.SetComp, ast.TryStar)
BUILTINS = (
    "len range enumerate zip min max sum abs sorted reversed int str bool bytes list tuple dict set frozenset "
    "isinstance ord repr any all divmod property classmethod staticmethod super iter next map "
    "Exception ValueError TypeError KeyError IndexError LookupError OverflowError RuntimeError").split()
ITERATED_BY = "list tuple dict sorted sum min max any all enumerate zip join".split()
METHODS = (
    "append clear copy count endswith extend find get index insert isalnum isalpha isdigit islower isspace isupper "
    "items join keys ljust lower lstrip partition pop remove replace reverse rfind rjust rpartition rsplit rstrip "
    "setdefault split splitlines startswith strip update upper values zfill bit_length add discard "
    "title capitalize swapcase casefold center expandtabs removeprefix removesuffix rindex isascii isdecimal "
    "isnumeric istitle isidentifier isprintable").split()
BUILTIN_METHODS = {name for kind in (str, int, list, dict, set, bytes, tuple) for name in dir(kind)}
FREE_ATTRIBUTES = "count index title find get join lower upper split strip copy add".split()
WORDS = "__init__ __eq__ __repr__ __str__ __len__ __call__ __contains__ __enter__ __exit__ __iter__".split()
NOT_NAMES = (
    "attrgetter breakpoint builtins compile copyright credits delattr dir eval exec exit gc getattr globals hasattr "
    "help id importlib license locals methodcaller os quit setattr type vars sys __name__").split()
NOWHERE = (
    "register mro elements open input law version_info with_traceback add_note typing typing_extensions enum Enum "
    "IntEnum StrEnum Flag IntFlag Generic Protocol ABC ABCMeta namedtuple NamedTuple TypedDict TYPE_CHECKING "
    "abstractmethod dataclass overload contextmanager format format_map").split()
KEYWORDS = {"sorted": {"key", "reverse"}, "min": {"key", "default"}, "max": {"key", "default"}, "sum": {"start"},
            "enumerate": {"start"}, "zip": {"strict"}}


def called(node):
    """The name of what a call calls, or None."""
    if not isinstance(node, ast.Call):
        return None
    return getattr(node.func, "id", getattr(node.func, "attr", None))


def inner(function, kinds):
    """The nodes of some kinds in a function."""
    return [node for node in ast.walk(function) if isinstance(node, kinds)]


def around(node):
    """The nodes around a node, from the nearest one."""
    while node in PARENTS:
        node = PARENTS[node]
        yield node


def parameters(function):
    told = function.args
    return [*told.posonlyargs, *told.args, *told.kwonlyargs]


def local_names(function):
    found = {parameter.arg for parameter in parameters(function)}
    return found | {node.id for node in inner(function, ast.Name) if isinstance(node.ctx, ast.Store)}


def is_plain(node):
    """Whether a value at module level is plain, or a tuple, list or dict of plain values and own functions."""
    if isinstance(node, (ast.Tuple, ast.List)):
        return all(is_plain(item) and not isinstance(item, (ast.List, ast.Dict)) for item in node.elts)
    if isinstance(node, ast.Dict):
        return all(is_plain(item) and not isinstance(item, (ast.List, ast.Dict)) for item in node.keys + node.values)
    return isinstance(node, ast.Constant) or isinstance(node, ast.Name) and node.id in OWN


class FileTest(unittest.TestCase):
    def test_the_folder_holds_python_files_only(self):
        others = [path for path in PACKAGE.rglob("*") if path.is_file() and path.suffix not in (".py", ".pyc")]
        self.assertEqual(others, [])
        self.assertTrue(FILES)
        self.assertIn("__init__.py", [path.name for path in FILES])
        for path in FILES:
            self.assertRegex(path.stem, "^[a-z][a-z0-9_]*$|^__init__$")
            self.assertFalse(hasattr(builtins, path.stem) and path.stem != "__init__", path)

    def test_lines_and_characters(self):
        for path in FILES:
            text = path.read_bytes().decode("ascii")
            lines = text.split("\n")
            self.assertLessEqual(len(lines), 399, path.name)
            self.assertEqual([line for line in lines if len(line) > 120], [], path.name)
            self.assertEqual([mark for mark in text if not (" " <= mark <= "~" or mark == "\n")], [], path.name)

    def test_sizes_of_functions(self):
        for path, node in FUNCTIONS:
            self.assertLessEqual(node.end_lineno - node.lineno + 1, 40, (path.name, node.name))

    def test_what_stands_at_module_level(self):
        for path, tree in TREES.items():
            names = []
            self.assertIsNotNone(ast.get_docstring(tree), path.name)
            for at, node in enumerate(tree.body):
                if isinstance(node, ast.Assign):
                    self.assertEqual(len(node.targets), 1)
                    self.assertIsInstance(node.targets[0], ast.Name)
                    self.assertTrue(is_plain(node.value), (path.name, node.lineno))
                    names.append(node.targets[0].id)
                elif isinstance(node, ast.ImportFrom):
                    names.extend(alias.name for alias in node.names)
                elif isinstance(node, (ast.FunctionDef, ast.ClassDef)):
                    names.append(node.name)
                else:
                    self.assertEqual(at, 0, (path.name, node.lineno))
            self.assertEqual(sorted(names), sorted(set(names)), path.name)

    def test_imports(self):
        for path, node in NODES:
            if isinstance(node, ast.ImportFrom):
                self.assertEqual(node.level, 0, path.name)
                self.assertIn(node, TREES[path].body)
                self.assertEqual([alias.asname for alias in node.names], [None] * len(node.names))
                names = [alias.name for alias in node.names]
                if node.module in LIBRARY:
                    self.assertLessEqual(set(names), set(LIBRARY[node.module].split()))
                    continue
                package, stem = node.module.split(".")
                self.assertEqual(package, "namesone")
                for name in names:
                    self.assertIn(name, self.defined_in(PACKAGE / (stem + ".py")), (path.name, name))

    def defined_in(self, path):
        """The names that a file defines itself."""
        return [getattr(node, "name", None) or node.targets[0].id for node in TREES[path].body
                if isinstance(node, (ast.FunctionDef, ast.ClassDef, ast.Assign))]

    def test_each_import_is_used(self):
        for path, tree in TREES.items():
            used = {node.id for node in ast.walk(tree) if isinstance(node, ast.Name)}
            for node in tree.body:
                if isinstance(node, ast.ImportFrom):
                    self.assertLessEqual({alias.name for alias in node.names}, used, path.name)

    def test_no_files_import_from_each_other(self):
        links = {}
        for path, tree in TREES.items():
            found = [node.module for node in ast.walk(tree) if isinstance(node, ast.ImportFrom)]
            links["namesone." + path.stem] = [module for module in found if module.startswith("namesone.")]
        while links:
            free = [module for module, others in links.items() if not set(others) & set(links)]
            self.assertTrue(free, links)
            for module in free:
                del links[module]


class NameTest(unittest.TestCase):
    def test_all_words_of_the_files(self):
        for path in FILES:
            for token in tokenize.generate_tokens(io.StringIO(path.read_text()).readline):
                if token.type == tokenize.NAME:
                    self.assertNotIn(token.string, NOWHERE, (path.name, token.start))
                    if token.string.startswith("__"):
                        self.assertIn(token.string, WORDS, (path.name, token.start))
                    else:
                        self.assertRegex(token.string, "^_?[A-Za-z][A-Za-z0-9_]*$|^_$", path.name)

    def test_strings(self):
        for path, node in NODES:
            if isinstance(node, ast.Constant) and isinstance(node.value, (str, bytes)):
                text = str(node.value)
                self.assertNotIn("%", text, path.name)
                self.assertFalse(text.endswith(("._", ".__")), path.name)
                self.assertEqual(set(re.findall("[A-Za-z_]+", text)) & set(NOWHERE), set(), path.name)

    def test_builtins(self):
        for path, node in NODES:
            if isinstance(node, ast.Name):
                self.assertFalse(hasattr(builtins, node.id) and node.id not in BUILTINS, (path.name, node.id))
                self.assertNotIn(node.id, NOT_NAMES, path.name)
                if isinstance(node.ctx, ast.Store):
                    self.assertFalse(hasattr(builtins, node.id), (path.name, node.id))

    def test_names_of_functions_classes_and_parameters(self):
        for path, node in FUNCTIONS + CLASSES:
            is_method = isinstance(PARENTS[node], ast.ClassDef)
            self.assertNotIn(node.name, NOT_NAMES, path.name)
            self.assertFalse(hasattr(builtins, node.name) and not is_method, (path.name, node.name))
            self.assertNotIn(node.name, BUILTINS, path.name)
        for path, function in FUNCTIONS:
            for parameter in parameters(function):
                self.assertFalse(hasattr(builtins, parameter.arg), (path.name, parameter.arg))
                self.assertNotIn(parameter.arg, NOT_NAMES, path.name)
                self.assertIsNone(parameter.annotation)

    def test_local_names_are_not_those_of_classes_and_imports(self):
        for path, function in FUNCTIONS:
            there = {node.name for node in TREES[path].body if isinstance(node, (ast.ClassDef, ast.FunctionDef))}
            for node in TREES[path].body:
                if isinstance(node, ast.ImportFrom):
                    there |= {alias.name for alias in node.names}
            self.assertEqual(local_names(function) & there, set(), (path.name, function.name))

    def test_the_name_that_is_never_read(self):
        for path, node in NODES:
            if isinstance(node, ast.Name) and node.id == "_":
                self.assertIsInstance(node.ctx, ast.Store, (path.name, node.lineno))

    def test_attributes(self):
        stored = {node.attr for _, node in NODES if isinstance(node, ast.Attribute) and isinstance(node.ctx, ast.Store)}
        for _, node in NODES:
            if isinstance(node, ast.Attribute) and isinstance(node.ctx, ast.Load):
                self.assertIn(node.attr, stored | OWN | set(METHODS))
        self.assertEqual(stored & BUILTIN_METHODS - set(FREE_ATTRIBUTES), set())
        for path, owner in CLASSES:
            methods = [node.name for node in owner.body if isinstance(node, ast.FunctionDef)]
            self.assertEqual(len(methods), len(set(methods)), (path.name, owner.name))
            own = {node.attr for node in inner(owner, ast.Attribute) if isinstance(node.ctx, ast.Store)}
            self.assertEqual(own & set(methods), set(), (path.name, owner.name))


class StatementTest(unittest.TestCase):
    def test_kinds_of_statements_and_expressions(self):
        for path, node in NODES:
            self.assertNotIsInstance(node, BARRED, (path.name, getattr(node, "lineno", 0)))
            if isinstance(node, (ast.ListComp, ast.DictComp, ast.Lambda, ast.JoinedStr)):
                self.assertTrue([other for other in around(node) if isinstance(other, ast.FunctionDef)], path.name)
            if isinstance(node, ast.Constant):
                self.assertNotIsInstance(node.value, (float, complex), path.name)
            if isinstance(node, ast.BinOp) and isinstance(node.op, ast.Pow):
                self.assertIsInstance(node.right, ast.Constant, path.name)

    def test_functions(self):
        for path, function in FUNCTIONS:
            told = function.args
            self.assertIn(type(PARENTS[function]), (ast.Module, ast.ClassDef), function.name)
            self.assertIsNone(told.vararg or told.kwarg, function.name)
            for default in told.defaults + [default for default in told.kw_defaults if default is not None]:
                self.assertIsInstance(default, (ast.Constant, ast.Name), (path.name, function.name))
            self.assertLessEqual({node.id for node in function.decorator_list}, {"property", "classmethod"})
            if function.name.startswith("__"):
                self.assertIsInstance(PARENTS[function], ast.ClassDef)

    def test_classes(self):
        for path, owner in CLASSES:
            self.assertIsInstance(PARENTS[owner], ast.Module)
            self.assertEqual(owner.decorator_list + owner.keywords, [])
            self.assertLessEqual(len(owner.bases), 1)
            for at, node in enumerate(owner.body):
                self.assertTrue(isinstance(node, ast.FunctionDef) or at == 0 and ast.get_docstring(owner), path.name)
            for function in owner.body:
                if isinstance(function, ast.FunctionDef) and function.name == "__init__":
                    self.assertEqual(inner(function, ast.Return), [])

    def test_methods_that_are_called(self):
        for path, node in NODES:
            if isinstance(node, ast.Call) and isinstance(node.func, ast.Attribute):
                self.assertIn(node.func.attr, OWN.union(METHODS), (path.name, node.lineno))

    def test_keywords_and_arguments_of_builtins(self):
        for path, node in NODES:
            name = called(node)
            if isinstance(node, ast.Call) and isinstance(node.func, ast.Name) and name in BUILTINS:
                self.assertLessEqual({keyword.arg for keyword in node.keywords}, KEYWORDS.get(name, set()), path.name)
            if isinstance(node, ast.Call) and isinstance(node.func, ast.Attribute) and name in METHODS:
                self.assertEqual(node.keywords, [], (path.name, node.lineno))
            if isinstance(node, ast.Name) and node.id in ("len", "sorted", "min", "max", "sum", "any", "all", "zip"):
                self.assertIs(getattr(PARENTS[node], "func", None), node, (path.name, node.lineno))

    def test_comparisons_by_identity(self):
        for path, node in NODES:
            if isinstance(node, ast.Compare):
                for sign, other in zip(node.ops, node.comparators):
                    if isinstance(sign, (ast.Is, ast.IsNot)):
                        self.assertIsInstance(other, ast.Constant, (path.name, node.lineno))
                        self.assertIn(other.value, (None, True, False))

    def test_errors_that_are_raised_and_caught(self):
        for path, node in NODES:
            if isinstance(node, ast.Raise):
                self.assertIn(called(node.exc), OWN_ERRORS, (path.name, node.lineno))
                self.assertIsNone(node.cause)
            if isinstance(node, ast.ExceptHandler):
                caught = node.type.elts if isinstance(node.type, ast.Tuple) else [node.type]
                self.assertLessEqual({name.id for name in caught}, OWN_ERRORS | {"KeyError"}, (path.name, node.lineno))
            if isinstance(node, ast.Try):
                self.assertEqual(node.finalbody, [])

    def test_sets_are_written_where_they_are_used(self):
        for path, node in NODES:
            if called(node) in ("set", "frozenset"):
                above = PARENTS[node]
                self.assertTrue(called(above) in ("sorted", "len") or isinstance(above, ast.Compare),
                                (path.name, node.lineno))

    def test_what_is_iterated_at_once(self):
        for path, node in NODES:
            if called(node) in ("range", "zip", "enumerate", "reversed", "items", "keys", "values", "map"):
                self.assert_iterated(path, node)

    def assert_iterated(self, path, node):
        above = PARENTS[node]
        fits = isinstance(above, (ast.For, ast.comprehension)) and above.iter is node
        fits = fits or isinstance(above, (ast.Expr, ast.YieldFrom)) or called(above) in ITERATED_BY
        self.assertTrue(fits, (path.name, node.lineno))

    def test_generators(self):
        generators = [(path, node) for path, node in FUNCTIONS if inner(node, (ast.Yield, ast.YieldFrom))]
        names = [node.name for _, node in generators]
        self.assertEqual(sorted(names), ["orders", "rest", "walk"])
        for path, function in generators:
            self.assertEqual([node.name for _, node in FUNCTIONS].count(function.name), 1)
            self.assertNotIn(function.name, METHODS)
            self.assertEqual([node for node in inner(function, ast.Return) if node.value], [])
            self.assertEqual(function.decorator_list, [])
            for node in inner(function, (ast.Yield, ast.YieldFrom)):
                self.assertIsInstance(PARENTS[node], ast.Expr)
                self.assertFalse([other for other in around(node) if isinstance(other, (ast.Try, ast.With))])
        for path, node in NODES:
            if called(node) in names:
                self.assert_iterated(path, node)
            elif isinstance(node, ast.Name) and isinstance(node.ctx, ast.Load) and node.id == "orders":
                self.assertEqual(called(PARENTS[node]), "orders")

    def test_loops_do_not_change_what_they_go_over(self):
        changing = ("append", "clear", "extend", "insert", "pop", "remove", "reverse", "setdefault", "update", "add")
        for path, node in NODES:
            if isinstance(node, ast.For):
                there = [other for other in ast.walk(node.iter) if isinstance(other, (ast.Name, ast.Attribute))]
                gone_over = {ast.dump(other) for other in there}
                for call in [other for row in node.body for other in ast.walk(row)]:
                    if called(call) in changing and isinstance(call.func, ast.Attribute):
                        self.assertNotIn(ast.dump(call.func.value), gone_over, (path.name, call.lineno))

    def test_formats(self):
        for path, node in NODES:
            if isinstance(node, ast.FormattedValue):
                self.assertIn(node.conversion, (-1, ord("r"), ord("s")), path.name)
                if node.format_spec is not None:
                    self.assertEqual([part.value for part in node.format_spec.values], ["02d"], path.name)
                inside = [other for other in ast.walk(node.value) if isinstance(other, ast.Constant)]
                self.assertEqual([other for other in inside if isinstance(other.value, (str, bytes))], [], path.name)


if __name__ == "__main__":
    unittest.main()

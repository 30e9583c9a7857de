"""The names, arguments and places that the interface tells."""

import inspect
import unittest

from namesone import errors, exchanges, tables

FUNCTIONS = {
    tables: {"is_sign": ["thing"], "is_word": ["thing"], "is_name": ["thing"]},
    exchanges: {"exchanges": ["table", "word"], "find_way": ["table", "one", "other"]},
}


class InterfaceTest(unittest.TestCase):
    def test_functions_stand_in_their_files(self):
        for module, functions in FUNCTIONS.items():
            for name, parameters in functions.items():
                function = getattr(module, name)
                self.assertEqual(function.__module__, module.__name__)
                self.assertEqual(list(inspect.signature(function).parameters), parameters)

    def test_table_stands_in_its_file(self):
        self.assertEqual(tables.Table.__module__, "namesone.tables")
        self.assertEqual(list(inspect.signature(tables.Table).parameters), ["folds", "marks"])

    def test_methods_stand_in_the_class_itself(self):
        own = vars(tables.Table)
        for name in ("__init__", "__call__", "__eq__", "__len__", "__str__", "__repr__"):
            self.assertIn(name, own)
        self.assertIsInstance(own["folds"], property)
        self.assertIsInstance(own["marks"], property)
        self.assertIsInstance(own["from_text"], classmethod)

    def test_arguments_are_passed_by_name_too(self):
        table = tables.Table(marks={"'": 1}, folds={"A": "a"})
        self.assertEqual(str(table), "A=a ':1")
        self.assertEqual(table(word="A"), "a")
        self.assertEqual(tables.Table.from_text(text="A=a ':1"), table)
        self.assertEqual(exchanges.exchanges(word="A", table=table), ["a"])
        self.assertEqual(exchanges.find_way(other="A", one="a", table=table), ["a", "A"])
        self.assertTrue(tables.is_sign(thing="a"))
        self.assertTrue(tables.is_word(thing="a"))
        self.assertTrue(tables.is_name(thing="a"))

    def test_each_error_stands_in_its_file(self):
        for name, thing in vars(errors).items():
            if inspect.isclass(thing):
                self.assertEqual(thing.__module__, "namesone.errors", name)


if __name__ == "__main__":
    unittest.main()

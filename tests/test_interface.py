"""The names, arguments and places that the interface tells."""

import inspect
import unittest

from namesone import (
    archives, desk, errors, exchanges, listings, papers, races, relations, spellings, tables, trees)
from tests.values import document_table, low_table, plain_table

FUNCTIONS = {
    tables: {"is_sign": ["thing"], "is_word": ["thing"], "is_name": ["thing"]},
    exchanges: {"exchanges": ["table", "word"], "find_way": ["table", "one", "other"]},
    papers: {"paper": ["table", "one", "other"], "holds": ["table", "one", "other", "thing"]},
    spellings: {
        "count": ["table", "name", "size"], "spellings": ["table", "name", "most"], "shortest": ["table", "name"],
        "groups": ["table", "names"], "bar": ["table", "names"]},
    relations: {
        "is_finer": ["one", "other"], "are_alike": ["one", "other"], "failing": ["one", "other"],
        "parting": ["one", "other"]},
    trees: {"is_path": ["thing"]},
    archives: {"parting_items": ["tree", "archive"]},
    races: {
        "orders": ["one", "other"], "race": ["tree", "one", "other", "order"],
        "least_apart": ["tree", "one", "other"]},
}
TREE_METHODS = {
    "folder": ["path", "table"], "file": ["path", "content"], "link": ["path", "target"], "write": ["path", "content"],
    "remove": ["path"], "move": ["path", "other"], "change": ["path", "table"], "kind": ["path"], "real_path": ["path"],
    "target": ["path"], "read": ["path"], "end": ["path"], "table_of": ["path"], "batch": ["deeds"], "lay": ["archive"],
    "walk": [], "names": ["path"], "copy": [], "same": ["other"],
}


class InterfaceTest(unittest.TestCase):
    def test_functions_stand_in_their_files(self):
        for module, functions in FUNCTIONS.items():
            for name, parameters in functions.items():
                function = getattr(module, name)
                self.assertEqual(function.__module__, module.__name__)
                self.assertEqual(list(inspect.signature(function).parameters), parameters)

    def test_table_stands_in_its_file(self):
        self.assertEqual(tables.Table.__module__, "namesone.tables")
        self.assertEqual(list(inspect.signature(tables.Table).parameters), ["folds", "marks"])

    def test_methods_stand_in_the_class_itself(self):
        own = vars(tables.Table)
        for name in ("__init__", "__call__", "__eq__", "__len__", "__str__", "__repr__"):
            self.assertIn(name, own)
        self.assertIsInstance(own["folds"], property)
        self.assertIsInstance(own["marks"], property)
        self.assertIsInstance(own["from_text"], classmethod)

    def test_arguments_are_passed_by_name_too(self):
        table = tables.Table(marks={"'": 1}, folds={"A": "a"})
        self.assertEqual(str(table), "A=a ':1")
        self.assertEqual(table(word="A"), "a")
        self.assertEqual(tables.Table.from_text(text="A=a ':1"), table)
        self.assertEqual(exchanges.exchanges(word="A", table=table), ["a"])
        self.assertEqual(exchanges.find_way(other="A", one="a", table=table), ["a", "A"])
        self.assertTrue(tables.is_sign(thing="a"))
        self.assertTrue(tables.is_word(thing="a"))
        self.assertTrue(tables.is_name(thing="a"))

    def test_tree_stands_in_its_file(self):
        self.assertEqual(trees.Tree.__module__, "namesone.trees")
        self.assertEqual(list(inspect.signature(trees.Tree).parameters), ["table"])

    def test_methods_of_trees_stand_in_the_class_itself(self):
        own = vars(trees.Tree)
        for name, parameters in TREE_METHODS.items():
            self.assertEqual(list(inspect.signature(own[name]).parameters), ["self", *parameters], name)
        for name in ("__init__", "__len__", "__contains__", "__repr__"):
            self.assertIn(name, own)

    def test_listing_and_desk_stand_in_their_files(self):
        self.assertEqual(listings.Listing.__module__, "namesone.listings")
        self.assertEqual(list(inspect.signature(listings.Listing).parameters), ["tree", "path"])
        self.assertEqual(desk.Desk.__module__, "namesone.desk")
        self.assertEqual(list(inspect.signature(desk.Desk).parameters), [])

    def test_methods_of_listings_and_desks_stand_in_the_class_itself(self):
        for owner, methods in (
                (listings.Listing, {"give": [], "rest": []}), (desk.Desk, {"say": ["command"], "tree": []})):
            for name, parameters in methods.items():
                self.assertEqual(list(inspect.signature(vars(owner)[name]).parameters), ["self", *parameters], name)
            self.assertIn("__init__", vars(owner))
        self.assertIsInstance(vars(listings.Listing)["last"], property)
        self.assertIsInstance(vars(listings.Listing)["behind"], classmethod)
        self.assertEqual(list(inspect.signature(listings.Listing.behind).parameters), ["tree", "key", "path"])

    def test_what_yields(self):
        for function in (races.orders, vars(listings.Listing)["rest"], vars(trees.Tree)["walk"]):
            self.assertTrue(inspect.isgeneratorfunction(function))

    def test_defaults(self):
        for function, name, default in (
                (spellings.spellings, "most", 40), (trees.Tree.folder, "table", None), (trees.Tree.file, "content", 0),
                (trees.Tree.table_of, "path", None), (trees.Tree.names, "path", None),
                (listings.Listing, "path", None), (listings.Listing.behind, "path", None)):
            self.assertEqual(inspect.signature(function).parameters[name].default, default)

    def test_what_is_passed_by_name_only(self):
        tree = trees.Tree(low_table())
        with self.assertRaises(TypeError):
            tree.folder("a", plain_table())
        self.assertEqual(len(tree), 0)
        with self.assertRaises(TypeError):
            spellings.spellings(low_table(), "a", 3)

    def test_functions_by_name_in_another_order(self):
        table = document_table()
        self.assertEqual(papers.paper(other="A", one="a", table=table), ("one", ["a", "A"]))
        self.assertIs(papers.holds(thing=("one", ["a", "A"]), other="A", one="a", table=table), True)
        self.assertEqual(spellings.count(size=1, name="A", table=table), 2)
        self.assertEqual(spellings.spellings(most=1, name="A", table=table), ["A", "a"])
        self.assertEqual(spellings.shortest(name="a'", table=table), "1")
        self.assertEqual(spellings.groups(names=["a", "A"], table=table), [["A", "a"]])
        self.assertEqual(spellings.bar(names=["a", "A"], table=table), ("A", "a"))
        self.assertIs(relations.is_finer(other=table, one=plain_table()), True)
        self.assertIs(relations.are_alike(other=table, one=plain_table()), False)
        self.assertEqual(relations.failing(other=plain_table(), one=low_table())[0], ("A", "a"))
        self.assertEqual(relations.parting(other=plain_table(), one=table), ("A", "a"))
        self.assertIs(trees.is_path(thing="a/b"), True)

    def test_methods_of_trees_by_name_in_another_order(self):
        tree = trees.Tree(table=low_table())
        tree.folder(table=plain_table(), path="a")
        tree.file(content=3, path="a/b")
        tree.file(path="a/c")
        tree.link(target="a/b", path="l")
        tree.write(content=4, path="l")
        tree.move(other="a/D", path="a/c")
        tree.change(table=document_table(), path="a")
        self.assertEqual(tree.kind(path="L"), "link")
        self.assertEqual(tree.real_path(path="A/b"), "a/b")
        self.assertEqual(tree.target(path="l"), "a/b")
        self.assertEqual(tree.read(path="l"), 4)
        self.assertEqual(tree.end(path="l"), "a/b")
        self.assertEqual(tree.table_of(path="a"), document_table())
        self.assertEqual(tree.names(path="a"), ["D", "b"])
        tree.batch(deeds=[("remove", "l")])
        tree.remove(path="a/b")
        self.assertEqual(tree.lay(archive=[("A/E", 1)]), ["a/E"])
        self.assertIs(tree.same(other=tree.copy()), True)

    def test_archives_races_listings_and_the_desk_by_position_and_by_name(self):
        tree = trees.Tree(low_table())
        tree.file("a")
        archive, one, other = [("x", 1), ("X", 1)], [("remove", "a")], [("write", "A", 5)]
        self.assertEqual(archives.parting_items(tree, archive), (0, 1))
        self.assertEqual(archives.parting_items(archive=archive, tree=tree), (0, 1))
        self.assertEqual(list(races.orders(one, other)), ["01", "10"])
        self.assertEqual(list(races.orders(other=[], one=one)), ["0"])
        self.assertEqual(races.race(tree, one, other, "01")[1:], ([True], [False]))
        self.assertEqual(races.race(order="10", other=other, one=one, tree=tree)[1:], ([True], [True]))
        self.assertEqual(races.least_apart(tree, one, other), "10")
        self.assertEqual(races.least_apart(other=other, tree=tree, one=one), "10")
        for listing in (
                listings.Listing(tree), listings.Listing(tree, None), listings.Listing(path=None, tree=tree),
                listings.Listing.behind(tree, "A"), listings.Listing.behind(tree, "A", None),
                listings.Listing.behind(path=None, key="A", tree=tree)):
            self.assertEqual([listing.give(), listing.last], ["a", "a"])
        self.assertEqual(desk.Desk().say("list"), "-")
        self.assertEqual(desk.Desk().say(command="list"), "-")

    def test_each_error_stands_in_its_file(self):
        for name, thing in vars(errors).items():
            if inspect.isclass(thing):
                self.assertEqual(thing.__module__, "namesone.errors", name)


if __name__ == "__main__":
    unittest.main()

"""[11] and [12]: trees, paths, the adding and removing of entries, and what is asked of them."""

import unittest

from namesone.errors import Missing, NoFile, NoLink, NoNumber, NoPath, NoTable, Present
from namesone.tables import Table
from namesone.trees import Tree, is_path
from tests.values import (
    SIGNS, document_table, error_of, low_table, no_numbers, no_paths, no_tables, plain_table)


class TreeCase(unittest.TestCase):
    def refuses(self, error, function, *given, **named):
        """Checks the class of an error and its fields, which are the very values handed over."""
        found = error_of(function, *given, **named)
        self.assertIsNotNone(found, (error, given, named))
        self.assertEqual(len(found), len(error))
        self.assertIs(found[0], error[0], (found, given, named))
        for told, expected in zip(found[1:], error[1:]):
            self.assertIs(type(told), type(expected))
            self.assertEqual(told, expected)

    def unchanged(self, tree, error, function, *given, **named):
        """As refuses, and the tree stays as it is."""
        before = tree.copy()
        self.refuses(error, function, *given, **named)
        self.assertTrue(tree.same(before), (error, given, named))


def example():
    """A tree with two folders under one another, two files and a link."""
    tree = Tree(low_table())
    tree.folder("Docs")
    tree.folder("Docs/Old")
    tree.file("Docs/Old/a.txt", 1)
    tree.file("Readme", 2)
    tree.link("l", "docs/old")
    return tree


ROWS = [
    ("Docs", "folder", None), ("Docs/Old", "folder", None), ("Docs/Old/a.txt", "file", 1),
    ("Readme", "file", 2), ("l", "link", "docs/old")]


class PathTest(unittest.TestCase):
    def test_paths(self):
        for path in ("a", "a/b", "a/b/c/d/e/f", "A'-/.:/^_~", "abcdefghijkl", "/".join(["abcdefghijkl"] * 6), ".", ".."):
            self.assertIs(is_path(path), True, path)
        for sign in SIGNS:
            self.assertIs(is_path(sign + "/" + sign), True)

    def test_no_paths(self):
        for thing in no_paths():
            self.assertIs(is_path(thing), False, thing)


class NewTreeTest(TreeCase):
    def test_an_empty_root(self):
        tree = Tree(low_table())
        self.assertEqual(list(tree.walk()), [])
        self.assertEqual(tree.names(), [])
        self.assertEqual(tree.table_of(), low_table())
        self.assertEqual(len(tree), 0)

    def test_no_tables(self):
        for thing in [None, *no_tables()]:
            self.refuses((NoTable, thing), Tree, thing)


class AddTest(TreeCase):
    def test_the_example(self):
        self.assertEqual(list(example().walk()), ROWS)

    def test_they_return_none(self):
        tree = Tree(low_table())
        self.assertIsNone(tree.folder("a"))
        self.assertIsNone(tree.folder("b", table=plain_table()))
        self.assertIsNone(tree.file("a/f"))
        self.assertIsNone(tree.file("a/g", 5))
        self.assertIsNone(tree.link("a/l", "x"))
        self.assertIsNone(tree.write("a/f", 3))
        self.assertIsNone(tree.remove("a"))
        self.assertIsNone(tree.move("b", "c"))
        self.assertIsNone(tree.change("c", low_table()))
        self.assertIsNone(tree.batch([]))

    def test_contents(self):
        tree = Tree(low_table())
        tree.file("a")
        tree.file("b", -5)
        tree.file("c", content=10 ** 40 - 1)
        self.assertEqual([tree.read(path) for path in "abc"], [0, -5, 10 ** 40 - 1])

    def test_new_entries_keep_the_spelling_of_the_path(self):
        tree = Tree(low_table())
        tree.folder("Ab")
        tree.folder("aB/cD")
        tree.file("AB/CD/Ef", 1)
        tree.link("ab/Gh", "aB/Cd")
        self.assertEqual([row[0] for row in tree.walk()], ["Ab", "Ab/Gh", "Ab/cD", "Ab/cD/Ef"])

    def test_targets_keep_their_spelling_and_may_find_nothing(self):
        tree = example()
        tree.link("m", "DOCS/None/x")
        self.assertEqual(tree.target("m"), "DOCS/None/x")
        self.assertEqual(tree.target("L"), "docs/old")

    def test_a_new_folder_has_the_table_of_the_folder_that_holds_it(self):
        tree = Tree(low_table())
        tree.folder("a")
        tree.folder("b", table=document_table())
        tree.folder("b/c")
        tree.folder("b/c/d", table=None)
        tree.folder("b/c/d/e", table=plain_table())
        for path, table in (("a", low_table()), ("b", document_table()), ("b/c", document_table()),
                            ("b/c/d", document_table()), ("b/c/d/e", plain_table())):
            self.assertEqual(tree.table_of(path), table)

    def test_names_are_found_by_the_table_of_the_folder_that_is_reached(self):
        tree = Tree(low_table())
        tree.folder("Plain", table=plain_table())
        tree.folder("Plain/Doc", table=document_table())
        tree.file("PLAIN/Doc/1", 7)
        self.assertEqual(tree.real_path("plain/Doc/A'"), "Plain/Doc/1")
        self.assertEqual(tree.read("pLAIN/Doc/a'"), 7)
        self.refuses((Missing, "Plain/doc/1"), tree.read, "Plain/doc/1")
        self.refuses((Missing, "Plain/Doc/a"), tree.read, "Plain/Doc/a")

    def test_missing(self):
        tree = example()
        for path in ("x/y", "docs/x/y", "readme/x", "Docs/Old/a.txt/x", "x/y/z/a/b/c", "l/x/y", "docs/old/a.txt/b/c"):
            self.unchanged(tree, (Missing, path), tree.folder, path)
            self.unchanged(tree, (Missing, path), tree.file, path, 1)
            self.unchanged(tree, (Missing, path), tree.link, path, "a")

    def test_present(self):
        tree = example()
        for path in ("docs", "DOCS", "README", "dOcs/oLd", "docs/old/A.TXT", "L", "l/A.txt"):
            self.unchanged(tree, (Present, path), tree.folder, path)
            self.unchanged(tree, (Present, path), tree.file, path)
            self.unchanged(tree, (Present, path), tree.link, path, "a")

    def test_no_paths(self):
        tree = example()
        for thing in no_paths():
            self.unchanged(tree, (NoPath, thing), tree.folder, thing)
            self.unchanged(tree, (NoPath, thing), tree.file, thing)
            self.unchanged(tree, (NoPath, thing), tree.link, thing, "a")
            self.unchanged(tree, (NoPath, thing), tree.link, "x", thing)
            self.unchanged(tree, (NoPath, thing), tree.write, thing, 1)
            self.unchanged(tree, (NoPath, thing), tree.remove, thing)
            self.unchanged(tree, (NoPath, thing), tree.move, thing, "x")
            self.unchanged(tree, (NoPath, thing), tree.move, "docs", thing)
            for method in (tree.kind, tree.real_path, tree.target, tree.read, tree.end):
                self.unchanged(tree, (NoPath, thing), method, thing)
            if thing is not None:
                for method in (tree.table_of, tree.names):
                    self.unchanged(tree, (NoPath, thing), method, thing)
                self.unchanged(tree, (NoPath, thing), tree.change, thing, low_table())

    def test_no_numbers(self):
        tree = example()
        for thing in no_numbers():
            self.unchanged(tree, (NoNumber, thing), tree.file, "x", thing)
            self.unchanged(tree, (NoNumber, thing), tree.write, "readme", thing)

    def test_no_tables(self):
        tree = example()
        for thing in no_tables():
            self.unchanged(tree, (NoTable, thing), tree.folder, "x", table=thing)
            self.unchanged(tree, (NoTable, thing), tree.change, "docs", thing)
        self.unchanged(tree, (NoTable, None), tree.change, "docs", None)
        self.unchanged(tree, (NoTable, None), tree.change, None, None)

    def test_the_first_error_of_several(self):
        tree = example()
        self.unchanged(tree, (NoPath, ""), tree.folder, "", table=5)
        self.unchanged(tree, (NoPath, ""), tree.file, "", True)
        self.unchanged(tree, (NoPath, ""), tree.write, "", True)
        self.unchanged(tree, (NoPath, ""), tree.link, "", "/")
        self.unchanged(tree, (NoPath, ""), tree.move, "", "/")
        self.unchanged(tree, (NoPath, ""), tree.change, "", 5)
        self.unchanged(tree, (NoTable, 5), tree.folder, "x/y", table=5)
        self.unchanged(tree, (NoTable, 5), tree.folder, "docs", table=5)
        self.unchanged(tree, (NoTable, 5), tree.change, "x/y", 5)
        self.unchanged(tree, (NoNumber, "1"), tree.file, "x/y", "1")
        self.unchanged(tree, (NoNumber, "1"), tree.file, "docs", "1")
        self.unchanged(tree, (NoNumber, "1"), tree.write, "x/y", "1")
        self.unchanged(tree, (NoNumber, "1"), tree.write, "docs", "1")
        self.unchanged(tree, (NoPath, "/"), tree.link, "x/y", "/")
        self.unchanged(tree, (NoPath, "/"), tree.link, "docs", "/")
        self.unchanged(tree, (NoPath, "/"), tree.move, "x/y", "/")
        self.unchanged(tree, (NoPath, None), tree.move, "x/y", None)

    def test_marks_and_folds_of_several_signs(self):
        tree = Tree(document_table())
        tree.folder("b1:")
        tree.file("bA:'/':a", 4)
        self.assertEqual(tree.read("ba':/:'A"), 4)
        self.unchanged(tree, (Present, "bA':"), tree.file, "bA':")
        self.assertEqual([row[0] for row in tree.walk()], ["b1:", "b1:/':a"])


class WriteTest(TreeCase):
    def test_write(self):
        tree = example()
        tree.write("DOCS/old/A.TXT", 8)
        tree.write("README", -1)
        self.assertEqual(list(tree.walk()), [
            ("Docs", "folder", None), ("Docs/Old", "folder", None), ("Docs/Old/a.txt", "file", 8),
            ("Readme", "file", -1), ("l", "link", "docs/old")])

    def test_errors(self):
        tree = example()
        tree.link("away", "nothing")
        for path in ("x", "docs/x", "readme/x", "l/x", "away/x"):
            self.unchanged(tree, (Missing, path), tree.write, path, 1)
            self.unchanged(tree, (Missing, path), tree.read, path)
        for path in ("docs", "DOCS/old", "l", "away"):
            self.unchanged(tree, (NoFile, path), tree.write, path, 1)
            self.unchanged(tree, (NoFile, path), tree.read, path)


class RemoveTest(TreeCase):
    def test_remove(self):
        tree = example()
        tree.remove("README")
        self.assertEqual([row[0] for row in tree.walk()], ["Docs", "Docs/Old", "Docs/Old/a.txt", "l"])
        tree.remove("dOcS")
        self.assertEqual([row[0] for row in tree.walk()], ["l"])
        tree.remove("L")
        self.assertEqual(list(tree.walk()), [])

    def test_a_removed_name_may_be_spelled_otherwise(self):
        tree = example()
        tree.remove("readme")
        tree.folder("README")
        self.assertEqual(tree.real_path("readme"), "README")
        self.assertEqual(tree.kind("readme"), "folder")

    def test_a_link_itself(self):
        tree = example()
        tree.remove("l")
        self.assertIn("docs/old/a.txt", tree)
        self.assertNotIn("l", tree)

    def test_through_a_link(self):
        tree = example()
        tree.remove("l/a.TXT")
        self.assertNotIn("docs/old/a.txt", tree)
        self.assertIn("l", tree)

    def test_missing(self):
        tree = example()
        for path in ("x", "docs/x", "readme/x", "l/x", "docs/old/a.txt/b"):
            self.unchanged(tree, (Missing, path), tree.remove, path)


class AskedTest(TreeCase):
    def test_kind(self):
        tree = example()
        self.assertEqual([tree.kind(path) for path in ("DOCS", "readme", "L", "l/a.txt")],
                         ["folder", "file", "link", "file"])
        for path in ("x", "l/x", "readme/readme"):
            self.refuses((Missing, path), tree.kind, path)

    def test_real_path(self):
        tree = example()
        for path, real in (("DOCS", "Docs"), ("docs/OLD", "Docs/Old"), ("L", "l"), ("l/A.TXT", "Docs/Old/a.txt")):
            self.assertEqual(tree.real_path(path), real)
        for path in ("x", "l/x"):
            self.refuses((Missing, path), tree.real_path, path)

    def test_target(self):
        tree = example()
        self.assertEqual(tree.target("L"), "docs/old")
        for path in ("docs", "docs/old", "README", "l/a.txt"):
            self.refuses((NoLink, path), tree.target, path)
        for path in ("x", "l/x"):
            self.refuses((Missing, path), tree.target, path)

    def test_read(self):
        tree = example()
        self.assertEqual([tree.read(path) for path in ("README", "l/a.txt", "docs/OLD/a.TXT")], [2, 1, 1])

    def test_end(self):
        tree = example()
        for path, real in (("DOCS", "Docs"), ("L", "Docs/Old"), ("l/A.TXT", "Docs/Old/a.txt"), ("x", None), ("l/x", None),
                           ("readme", "Readme"), ("readme/x", None)):
            self.assertEqual(tree.end(path), real)

    def test_table_of(self):
        tree = example()
        tree.folder("docs/New", table=document_table())
        tree.link("m", "docs/new")
        for path, table in ((None, low_table()), ("docs", low_table()), ("l", low_table()), ("m", document_table())):
            self.assertEqual(tree.table_of(path), table)
        self.assertEqual(tree.table_of(), low_table())
        for path in ("x", "readme", "l/a.txt", "l/x", "readme/x"):
            self.refuses((Missing, path), tree.table_of, path)

    def test_names(self):
        tree = example()
        self.assertEqual(tree.names(), ["Docs", "l", "Readme"])
        self.assertEqual(tree.names(None), ["Docs", "l", "Readme"])
        self.assertEqual(tree.names("DOCS"), ["Old"])
        self.assertEqual(tree.names("l"), ["a.txt"])
        for path in ("x", "readme", "l/a.txt", "l/x"):
            self.refuses((Missing, path), tree.names, path)

    def test_names_ascending_by_keys(self):
        tree = Tree(Table({"1": "b'", "Z": "a"}, {"'": 1, ":": 2}))
        for name in ("b:'", "Zb", "c", "1", "Z", "B", ":'", "bb"):
            tree.file(name)
        # The keys are ': B a ab b' b': bb c.
        self.assertEqual(tree.names(), [":'", "B", "Z", "Zb", "1", "b:'", "bb", "c"])

    def test_walk_goes_by_the_names_on_the_way(self):
        tree = Tree(plain_table())
        for path in ("a", "a/b", "a-", "a-/b", "B", "a/B"):
            tree.folder(path)
        tree.file("a/b/c", 1)
        tree.link("a.", "x")
        # As strings, a- and a. would come before a/b.
        self.assertEqual(list(tree.walk()), [
            ("B", "folder", None), ("a", "folder", None), ("a/B", "folder", None), ("a/b", "folder", None),
            ("a/b/c", "file", 1), ("a-", "folder", None), ("a-/b", "folder", None), ("a.", "link", "x")])

    def test_walk_yields(self):
        walk = example().walk()
        self.assertIs(iter(walk), walk)
        self.assertEqual(next(walk), ROWS[0])
        self.assertEqual(list(walk), ROWS[1:])
        self.assertTrue(all(type(row) is tuple for row in example().walk()))

    def test_lists_are_new(self):
        tree = example()
        tree.names().clear()
        tree.names("docs").append("x")
        self.assertEqual(tree.names(), ["Docs", "l", "Readme"])
        self.assertEqual(tree.names("docs"), ["Old"])


class DeepTest(TreeCase):
    def deep(self, depth):
        """A tree of folders d, one in the other; it is deeper than a path can tell."""
        tree = Tree(low_table())
        tree.folder("d")
        for _ in range(depth - 1):
            tree.folder("e")
            tree.move("d", "e/d")
            tree.move("e", "d")
        return tree

    def test_real_paths_of_more_than_six_names(self):
        tree = self.deep(12)
        tree.link("a", "d/d/d/d/d/d")
        tree.link("b", "a/D/D/d/d/d")
        tree.file("b/d/F", 5)
        self.assertEqual(tree.real_path("B/D/f"), "/".join(["d"] * 12 + ["F"]))
        self.assertEqual(tree.end("b"), "/".join(["d"] * 11))
        self.assertFalse(is_path(tree.end("b")))
        self.refuses((NoPath, tree.end("b")), tree.kind, tree.end("b"))
        self.assertNotIn(tree.end("b"), tree)
        self.assertEqual(tree.read("b/d/f"), 5)

    def test_a_hundred_folders(self):
        tree = self.deep(100)
        self.assertEqual(len(tree), 100)
        rows = list(tree.walk())
        self.assertEqual(rows[-1], ("/".join(["d"] * 100), "folder", None))
        self.assertTrue(tree.copy().same(tree))
        for step in range(19):
            tree.link(f"l{step + 1}", ("d" if step == 0 else f"l{step}") + "/d/d/d/d/d")
        self.assertEqual(tree.end("l19"), "/".join(["d"] * 96))
        tree.file("l19/d/d/d/d/x")
        tree.batch([("write", "l19/d/d/d/d/x", 4)])
        self.assertEqual(list(tree.walk())[100], ("/".join(["d"] * 100 + ["x"]), "file", 4))
        tree.remove("d")
        self.assertEqual(len(tree), 19)


if __name__ == "__main__":
    unittest.main()

"""[13] and [3]: changes of the tables of folders."""

import itertools
import unittest

from namesone.errors import Barred, Missing, NoPath, NoTable
from namesone.tables import Table
from namesone.trees import Tree
from tests.test_trees import TreeCase
from tests.values import document_table, low_table, place, plain_table


def holding(names, table):
    """A tree whose root holds files of these names."""
    tree = Tree(table)
    for at, name in enumerate(names):
        tree.file(name, at)
    return tree


class ChangeTest(TreeCase):
    def test_the_root(self):
        tree = holding(["a", "b", "Cc"], plain_table())
        self.assertNotIn("A", tree)
        self.assertIsNone(tree.change(None, low_table()))
        self.assertEqual(tree.table_of(), low_table())
        self.assertIn("A", tree)
        self.assertEqual(tree.read("cC"), 2)
        self.assertEqual(tree.real_path("CC"), "Cc")
        tree.change(None, plain_table())
        self.assertNotIn("A", tree)
        self.assertIn("Cc", tree)

    def test_a_folder_in_another_spelling_and_through_links(self):
        tree = Tree(low_table())
        tree.folder("Dir", table=plain_table())
        tree.file("Dir/a", 1)
        tree.link("l", "m")
        tree.link("m", "dir")
        tree.change("DIR", low_table())
        self.assertIn("dir/A", tree)
        tree.change("l", document_table())
        self.assertEqual(tree.table_of("dir"), document_table())
        self.assertEqual(tree.table_of(), low_table())

    def test_the_folders_within_keep_theirs(self):
        tree = Tree(plain_table())
        tree.folder("a")
        tree.folder("a/b", table=document_table())
        tree.folder("a/b/c")
        tree.change("a", low_table())
        tree.change(None, low_table())
        self.assertEqual([tree.table_of(path) for path in (None, "A", "A/B", "A/B/c")],
                         [low_table(), low_table(), document_table(), document_table()])
        tree.folder("a/new")
        self.assertEqual(tree.table_of("a/new"), low_table())

    def test_barred_with_the_least_pair(self):
        for names, pair in (
                (["a", "A"], ("A", "a")),
                (["a", "aa", "AA", "b", "B"], ("B", "b")),
                (["xY", "xy", "XY", "Xz"], ("XY", "xY")),
                (["bb", "Bb", "aa", "aA", "c"], ("Bb", "bb"))):
            for some in itertools.permutations(names):
                tree = holding(some, plain_table())
                self.unchanged(tree, (Barred, *pair), tree.change, None, low_table())
                self.assertEqual(tree.table_of(), plain_table())

    def test_barred_by_marks_and_longer_words(self):
        tree = holding(["ba':", "b1:", "ba:'"], plain_table())
        self.unchanged(tree, (Barred, "b1:", "ba':"), tree.change, None, document_table())
        tree.remove("b1:")
        self.unchanged(tree, (Barred, "ba':", "ba:'"), tree.change, None, document_table())
        tree.remove("ba:'")
        tree.change(None, document_table())
        self.assertIn("b1:", tree)

    def test_only_names_of_the_folder_bar(self):
        tree = Tree(plain_table())
        tree.folder("a")
        tree.folder("a/x")
        tree.folder("a/X")
        tree.file("X")
        tree.change(None, low_table())
        self.unchanged(tree, (Barred, "X", "x"), tree.change, "A", low_table())

    def test_barred_if_and_only_if_two_names_become_one(self):
        names = ["a", "A", "1", "a'", "':", ":'", "b"]
        tables = [plain_table(), low_table(), document_table(), Table({"b": "a"}, {}), Table({}, {"'": 1, ":": 2})]
        for some in itertools.combinations(names, 3):
            for table in tables:
                tree = holding(some, plain_table())
                pairs = [(u, v) for u in some for v in some if place(u) < place(v) and table(u) == table(v)]
                if pairs:
                    least = min(pairs, key=lambda pair: (place(pair[0]), place(pair[1])))
                    self.unchanged(tree, (Barred, *least), tree.change, None, table)
                else:
                    tree.change(None, table)
                    self.assertEqual(tree.table_of(), table)
                    self.assertEqual(sorted(tree.names()), sorted(some))
                    for at, name in enumerate(some):
                        self.assertEqual(tree.read(name), at)

    def test_the_same_table_again(self):
        tree = holding(["a", "b"], low_table())
        before = tree.copy()
        tree.change(None, low_table())
        self.assertTrue(tree.same(before))

    def test_a_change_after_a_removal_and_new_entries_after_a_change(self):
        tree = holding(["a", "A"], plain_table())
        tree.remove("a")
        tree.change(None, low_table())
        self.assertIn("a", tree)
        tree.remove("a")
        tree.file("a", 5)
        self.assertEqual(list(tree.walk()), [("a", "file", 5)])
        tree.move("A", "b")
        tree.change(None, plain_table())
        self.assertEqual(list(tree.walk()), [("b", "file", 5)])

    def test_errors(self):
        tree = holding(["a", "A"], plain_table())
        tree.link("l", "nothing")
        for path in ("a", "x", "a/x", "l", "l/x"):
            self.unchanged(tree, (Missing, path), tree.change, path, low_table())
        self.unchanged(tree, (NoPath, ""), tree.change, "", 5)
        self.unchanged(tree, (NoTable, 5), tree.change, "x", 5)
        self.unchanged(tree, (NoTable, 5), tree.change, None, 5)
        self.unchanged(tree, (NoTable, "A=a"), tree.change, "a", "A=a")

    def test_many_entries(self):
        names = [one + other for one in "abcdefghijklmno" for other in "abcdefghijklmnopqrst"]
        tree = holding(names, plain_table())
        tree.change(None, low_table())
        self.assertEqual(len(tree), 300)
        self.assertIn("OT", tree)
        self.unchanged(tree, (Barred, "aa", "ab"), tree.change, None, Table({"b": "a"}, {}))


if __name__ == "__main__":
    unittest.main()

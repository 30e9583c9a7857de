"""[14]: archives laid out."""

import copy
import unittest

from namesone.errors import Clash
from namesone.trees import Tree
from tests.test_trees import TreeCase, example
from tests.values import document_table, low_table, plain_table


class LayTest(TreeCase):
    def test_into_an_empty_tree(self):
        tree = Tree(low_table())
        paths = tree.lay([("A/b/c", 1), ("a/B/d", None), ("A/B/d/E", 2), ("f", 3), ("G", None)])
        self.assertEqual(paths, ["A/b/c", "A/b/d", "A/b/d/E", "f", "G"])
        self.assertEqual(list(tree.walk()), [
            ("A", "folder", None), ("A/b", "folder", None), ("A/b/c", "file", 1), ("A/b/d", "folder", None),
            ("A/b/d/E", "file", 2), ("G", "folder", None), ("f", "file", 3)])

    def test_nothing(self):
        tree = example()
        self.assertEqual(tree.lay([]), [])
        self.assertTrue(tree.same(example()))

    def test_onto_folders_and_files_that_are_there(self):
        tree = example()
        paths = tree.lay([
            ("DOCS", None), ("docs/OLD/A.TXT", 7), ("README", 8), ("docs/old/B/c", 9), ("dOcS/Old", None),
            ("docs/old/b", None)])
        self.assertEqual(paths, ["Docs", "Docs/Old/a.txt", "Readme", "Docs/Old/B/c", "Docs/Old", "Docs/Old/B"])
        self.assertEqual(list(tree.walk()), [
            ("Docs", "folder", None), ("Docs/Old", "folder", None), ("Docs/Old/B", "folder", None),
            ("Docs/Old/B/c", "file", 9), ("Docs/Old/a.txt", "file", 7), ("Readme", "file", 8), ("l", "link", "docs/old")])

    def test_an_item_twice(self):
        tree = Tree(low_table())
        self.assertEqual(tree.lay([("A", 1), ("a", 2), ("a", 0)]), ["A", "A", "A"])
        self.assertEqual(list(tree.walk()), [("A", "file", 0)])
        self.assertEqual(tree.lay([("B/C", None), ("b/c", None)]), ["B/C", "B/C"])

    def test_a_content_of_zero_is_a_file(self):
        tree = Tree(low_table())
        tree.lay([("a", 0), ("b", None)])
        self.assertEqual([tree.kind("a"), tree.kind("b")], ["file", "folder"])

    def test_spelled_in_other_words(self):
        tree = Tree(document_table())
        self.assertEqual(tree.lay([("b1:/x", 1), ("bA:'/X", 2), ("ba:'/x", 3)]), ["b1:/x", "b1:/X", "b1:/x"])
        self.assertEqual(tree.read("ba':/x"), 3)

    def test_new_folders_have_the_table_of_the_folder_that_holds_them(self):
        tree = Tree(low_table())
        tree.folder("p", table=plain_table())
        self.assertEqual(tree.lay([("P/a/b", None), ("p/A/b", 1), ("q/r", None), ("Q/R/s", 2)]),
                         ["p/a/b", "p/A/b", "q/r", "q/r/s"])
        for path, table in (("p/a", plain_table()), ("p/a/b", plain_table()), ("p/A", plain_table()),
                            ("q", low_table()), ("q/r", low_table())):
            self.assertEqual(tree.table_of(path), table)

    def test_real_paths_of_six_names(self):
        tree = Tree(low_table())
        self.assertEqual(tree.lay([("a/b/c/d/e/f", 1), ("A/B/C/D/E/G", None)]), ["a/b/c/d/e/f", "a/b/c/d/e/G"])

    def test_clashes(self):
        for archive, at in (
                ([("readme", None)], 0),
                ([("readme/x", 1)], 0),
                ([("readme/x", None)], 0),
                ([("docs", 1)], 0),
                ([("DOCS/old", 1)], 0),
                ([("docs/old/a.txt/x/y", 1)], 0),
                ([("l", 1)], 0),
                ([("l", None)], 0),
                ([("L/x", 1)], 0),
                ([("l/x", None)], 0),
                ([("l/a.txt", 1)], 0),
                ([("new", 1), ("NEW/x", 1)], 1),
                ([("new/x", 1), ("New", 1)], 1),
                ([("new", None), ("readme", 5), ("nEw", 1)], 2),
                ([("new", 1), ("new", None), ("readme", None)], 1),
                ([("a", None), ("a/b", 1), ("a/b/c", 1), ("a/b", 2)], 2),
                ([("docs/new", 1), ("docs/old/a.txt", 5), ("docs", None), ("docs/x/y/z", None), ("l/x", 1)], 4)):
            tree = example()
            self.unchanged(tree, (Clash, at), tree.lay, archive)
            self.assertEqual(list(tree.walk()), list(example().walk()))

    def test_links_are_not_followed(self):
        tree = Tree(low_table())
        tree.folder("d")
        tree.file("d/f", 1)
        tree.link("toD", "d")
        tree.link("toF", "d/f")
        tree.link("d/self", "d")
        for archive in ([("tod/x", 1)], [("tof", 2)], [("tod", None)], [("d/self/f", 2)], [("d/self", None)]):
            self.unchanged(tree, (Clash, 0), tree.lay, archive)

    def test_after_a_clash(self):
        tree = example()
        with self.assertRaises(Clash):
            tree.lay([("x/y", 1), ("readme", 9), ("l", 1)])
        self.assertNotIn("x", tree)
        self.assertEqual(tree.read("readme"), 2)
        self.assertEqual(tree.lay([("x/y", 1), ("readme", 9)]), ["x/y", "Readme"])

    def test_lists_are_new_and_what_is_handed_over_stays(self):
        archive = [("A/b", 1), ("a/C", None)]
        kept = copy.deepcopy(archive)
        tree = example()
        paths = tree.lay(archive)
        self.assertEqual(archive, kept)
        paths.clear()
        self.assertEqual(tree.lay(archive), ["A/b", "A/C"])
        with self.assertRaises(Clash):
            tree.lay([*archive, ("a", 1)])
        self.assertEqual(archive, kept)


if __name__ == "__main__":
    unittest.main()

"""[12]: moves."""

import unittest

from namesone.errors import Inside, Missing, Present
from namesone.tables import Table
from namesone.trees import Tree
from tests.test_trees import TreeCase
from tests.values import document_table, low_table, plain_table


def example():
    """A tree with folders under one another, files and links."""
    tree = Tree(low_table())
    tree.folder("Docs")
    tree.folder("Docs/Old", table=document_table())
    tree.folder("Docs/Old/b1", table=plain_table())
    tree.file("Docs/Old/b1/f", 1)
    tree.file("Readme", 2)
    tree.folder("Other", table=plain_table())
    tree.link("l", "docs/old")
    return tree


class MoveTest(TreeCase):
    def paths(self, tree):
        return [row[0] for row in tree.walk()]

    def test_to_another_name(self):
        tree = example()
        tree.move("README", "ReadYou")
        self.assertEqual(tree.real_path("readyou"), "ReadYou")
        self.assertEqual(tree.read("readyou"), 2)
        self.assertNotIn("readme", tree)

    def test_onto_itself_in_another_spelling(self):
        tree = example()
        for spelling in ("README", "readme", "rEADME", "Readme", "Readme"):
            tree.move("readMe", spelling)
            self.assertEqual(tree.real_path("README"), spelling)
            self.assertEqual(tree.read("README"), 2)
            self.assertEqual(len(tree), len(example()))

    def test_a_folder_onto_itself_keeps_all_that_is_in_it(self):
        tree = example()
        tree.move("docs", "DOCS")
        self.assertEqual(self.paths(tree), [
            "DOCS", "DOCS/Old", "DOCS/Old/b1", "DOCS/Old/b1/f", "Other", "Readme", "l"])
        self.assertEqual(tree.table_of("docs/old"), document_table())

    def test_onto_itself_by_another_word_of_the_table(self):
        tree = example()
        tree.move("docs/old/bA'", "docs/old/ba'")
        self.assertEqual(tree.real_path("docs/old/b1"), "Docs/Old/ba'")
        self.assertEqual(tree.read("docs/old/b1/f"), 1)

    def test_onto_itself_through_a_link(self):
        tree = example()
        tree.move("l/b1", "docs/old/bA'")
        self.assertEqual(tree.real_path("l/b1"), "Docs/Old/bA'")
        tree.move("docs/old/b1", "L/ba'")
        self.assertEqual(tree.real_path("l/b1"), "Docs/Old/ba'")

    def test_only_the_last_name_is_spelled_anew(self):
        tree = example()
        tree.move("docs/old", "DOCS/OLD")
        self.assertEqual(tree.real_path("docs/old"), "Docs/OLD")

    def test_into_other_folders(self):
        tree = example()
        tree.move("readme", "docs/OLD/Me")
        self.assertEqual(tree.real_path("docs/old/Me"), "Docs/Old/Me")
        tree.move("docs/OLD/b1", "B")
        self.assertEqual(tree.real_path("b/f"), "B/f")
        self.assertEqual(self.paths(tree), ["B", "B/f", "Docs", "Docs/Old", "Docs/Old/Me", "Other", "l"])

    def test_out_of_a_folder_under_the_same_name(self):
        tree = example()
        tree.move("docs/old/b1/f", "f")
        self.assertEqual(self.paths(tree), ["Docs", "Docs/Old", "Docs/Old/b1", "Other", "Readme", "f", "l"])

    def test_the_table_of_the_new_folder_tells_which_names_are_one(self):
        tree = example()
        tree.file("Other/readme", 3)
        tree.move("readme", "other/README")
        tree.file("Other/Readme", 4)
        self.assertEqual(tree.names("other"), ["README", "Readme", "readme"])
        tree.move("other/README", "README")
        self.unchanged(tree, (Present, "readme"), tree.move, "other/readme", "readme")
        self.assertEqual(tree.read("readme"), 2)

    def test_folders_keep_their_tables(self):
        tree = example()
        tree.move("docs/old", "other/Old")
        self.assertEqual(tree.table_of("other/Old"), document_table())
        self.assertEqual(tree.table_of("other/Old/b1"), plain_table())
        self.assertEqual(tree.table_of("docs"), low_table())
        self.assertEqual(tree.read("OTHER/Old/bA'/f"), 1)
        self.refuses((Missing, "other/old"), tree.kind, "other/old")

    def test_a_link_is_moved_itself(self):
        tree = example()
        tree.move("l", "other/L")
        self.assertEqual(tree.kind("other/L"), "link")
        self.assertEqual(tree.target("other/L"), "docs/old")
        self.assertIn("docs/old", tree)

    def test_a_link_into_the_folder_that_is_its_end(self):
        tree = example()
        tree.move("l", "l/In")
        self.assertEqual(tree.real_path("docs/old/In"), "Docs/Old/In")
        self.assertEqual(tree.end("docs/old/In/In"), "Docs/Old")

    def test_missing(self):
        tree = example()
        for path in ("x", "docs/x", "readme/x", "l/x", "other/X"):
            self.unchanged(tree, (Missing, path), tree.move, path, "new")
            self.unchanged(tree, (Missing, path), tree.move, path, "docs")
        for other in ("x/y", "readme/y", "docs/x/y", "l/x/y"):
            self.unchanged(tree, (Missing, other), tree.move, "other", other)

    def test_present(self):
        tree = example()
        for path, other in (("readme", "DOCS"), ("docs", "l"), ("l", "README"), ("other", "docs/OLD"), ("readme", "L/bA'"),
                            ("docs/old", "docs"), ("l/b1", "L")):
            self.unchanged(tree, (Present, other), tree.move, path, other)

    def test_inside(self):
        tree = example()
        tree.link("docs/old/b1/up", "docs")
        for path, other in (("docs", "docs/x"), ("DOCS", "docs/old/x"), ("docs", "docs/old/b1/x"), ("docs", "l/x"),
                            ("docs/old", "l/x"), ("docs/old", "l/b1/x"), ("docs", "docs/old/b1/up/x"), ("l/b1", "l/b1/x")):
            self.unchanged(tree, (Inside, other), tree.move, path, other)
        tree.move("docs/old", "docs/old/b1/up/x")
        self.assertEqual(tree.real_path("docs/x"), "Docs/x")

    def test_the_first_error_of_several(self):
        tree = example()
        self.unchanged(tree, (Missing, "x"), tree.move, "x", "y/z")
        self.unchanged(tree, (Missing, "docs/x/y"), tree.move, "docs", "docs/x/y")
        self.unchanged(tree, (Present, "docs/old"), tree.move, "docs", "docs/old")
        self.unchanged(tree, (Present, "l/b1"), tree.move, "docs", "l/b1")
        self.unchanged(tree, (Present, "docs/OLD/b1"), tree.move, "docs/old", "docs/OLD/b1")

    def test_what_is_asked_is_asked_before_the_move(self):
        tree = Tree(low_table())
        tree.folder("a")
        tree.folder("b")
        tree.link("b/l", "a")
        # After b is away the link could not be found there.
        self.unchanged(tree, (Inside, "b/x"), tree.move, "b", "b/x")
        tree.move("b", "b/l/b")
        self.assertEqual(tree.real_path("a/b/l"), "a/b/l")
        self.assertEqual(tree.end("a/b/l"), "a")
        tree.move("a/b/l", "a/b/l/l")
        self.assertEqual([row[0] for row in tree.walk()], ["a", "a/b", "a/l"])

    def test_names_that_are_one_only_for_one_of_the_folders(self):
        tree = Tree(plain_table())
        tree.file("F", 1)
        tree.file("f", 2)
        tree.folder("low", table=Table({"F": "f"}, {}))
        tree.move("F", "low/F")
        self.unchanged(tree, (Present, "low/f"), tree.move, "f", "low/f")
        tree.move("low/f", "F")
        self.assertEqual([tree.read("F"), tree.read("f")], [1, 2])


if __name__ == "__main__":
    unittest.main()

"""[15] and [2]: copies, trees that are the same, and what trees are as values."""

import itertools
import unittest

from namesone.trees import Tree
from tests.test_trees import TreeCase, example
from tests.values import any_values, document_table, low_table, no_paths, plain_table

# Each of these makes one difference.
CHANGES = [
    lambda tree: tree.move("readme", "README"),
    lambda tree: tree.move("docs", "dOCS"),
    lambda tree: tree.move("docs/old", "docs/OLD"),
    lambda tree: tree.move("l", "L"),
    lambda tree: tree.write("readme", 3),
    lambda tree: tree.write("docs/old/a.txt", 2),
    lambda tree: (tree.remove("l"), tree.link("l", "docs/OLD")),
    lambda tree: (tree.remove("l"), tree.link("l", "docs")),
    lambda tree: tree.change(None, plain_table()),
    lambda tree: tree.change("docs", plain_table()),
    lambda tree: tree.change("docs/old", document_table()),
    lambda tree: tree.change("docs/old", plain_table()),
    lambda tree: tree.folder("docs/old/new"),
    lambda tree: tree.folder("docs/old/new", table=plain_table()),
    lambda tree: tree.file("docs/old/new"),
    lambda tree: tree.link("docs/old/new", "x"),
    lambda tree: tree.remove("docs/old/a.txt"),
    lambda tree: tree.remove("docs/old"),
    lambda tree: tree.remove("readme"),
    lambda tree: (tree.remove("readme"), tree.folder("Readme")),
    lambda tree: tree.move("readme", "docs/Readme"),
]


def changed(change):
    tree = example()
    change(tree)
    return tree


class SameTest(TreeCase):
    def test_the_same(self):
        self.assertIs(example().same(example()), True)
        self.assertIs(Tree(low_table()).same(Tree(low_table())), True)
        tree = example()
        self.assertIs(tree.same(tree), True)
        self.assertIs(tree.same(other=tree.copy()), True)

    def test_whatever_the_order_in_which_entries_came(self):
        for order in itertools.permutations(["a", "B", "c", "D"]):
            tree = Tree(low_table())
            for name in order:
                tree.folder(name)
            other = Tree(low_table())
            other.lay([("a", None), ("B", None), ("c", None), ("D", None)])
            self.assertIs(tree.same(other), True)
            self.assertEqual(list(tree.walk()), list(other.walk()))

    def test_one_difference(self):
        for change in CHANGES:
            self.assertIs(changed(change).same(example()), False)
            self.assertIs(example().same(changed(change)), False)
            self.assertIs(changed(change).same(changed(change)), True)

    def test_two_differences(self):
        for one, other in itertools.combinations(CHANGES, 2):
            self.assertIs(changed(one).same(changed(other)), False)

    def test_as_many_entries_with_other_names(self):
        trees = []
        for names in (("a", "b"), ("a", "c"), ("d", "b"), ("A", "b"), ("a", "B")):
            tree = Tree(low_table())
            tree.folder(names[0])
            tree.file(names[0] + "/" + names[1], 1)
            trees.append(tree)
        for one, other in itertools.product(trees, repeat=2):
            self.assertIs(one.same(other), one is other)

    def test_contents_targets_and_folders(self):
        trees = [Tree(low_table()) for _ in range(5)]
        trees[0].folder("a")
        trees[1].file("a")
        trees[2].file("a", 1)
        trees[3].link("a", "b")
        trees[4].link("a", "B")
        for one, other in itertools.product(trees, repeat=2):
            self.assertIs(one.same(other), one is other)

    def test_tables_of_empty_trees(self):
        self.assertIs(Tree(low_table()).same(Tree(plain_table())), False)

    def test_values_that_are_no_trees(self):
        for thing in any_values():
            self.assertIs(example().same(thing), False)


class CopyTest(TreeCase):
    def test_a_copy_is_the_same_and_another_object(self):
        tree = example()
        other = tree.copy()
        self.assertIsInstance(other, Tree)
        self.assertIsNot(other, tree)
        self.assertTrue(other.same(tree))
        self.assertEqual(list(other.walk()), list(tree.walk()))

    def test_they_share_nothing(self):
        for change in CHANGES:
            tree = example()
            other = tree.copy()
            change(tree)
            self.assertTrue(other.same(example()))
            tree = example()
            change(tree.copy())
            self.assertTrue(tree.same(example()))

    def test_tables_are_copied(self):
        tree = Tree(low_table())
        tree.folder("a", table=document_table())
        other = tree.copy()
        tree.change("a", plain_table())
        self.assertEqual(other.table_of("a"), document_table())
        self.assertEqual(other.table_of(), low_table())


class ValueTest(TreeCase):
    def test_equal_only_for_the_same_object(self):
        tree = example()
        self.assertIs(tree == tree, True)
        self.assertIs(tree != tree, False)
        for other in (tree.copy(), example(), None, 0, "Tree(5 entries)", list(tree.walk()), low_table()):
            self.assertIs(tree == other, False)
            self.assertIs(tree != other, True)
        self.assertIs(Tree(low_table()) == Tree(low_table()), False)

    def test_len(self):
        tree = Tree(low_table())
        for size in range(12):
            self.assertEqual(len(tree), size)
            tree.folder("a" if size == 0 else f"a/b{size}")
        self.assertEqual(len(example()), 5)
        tree.remove("a")
        self.assertEqual(len(tree), 0)

    def test_repr(self):
        self.assertEqual(repr(example()), "Tree(5 entries)")
        self.assertEqual(repr(Tree(low_table())), "Tree(0 entries)")
        tree = Tree(low_table())
        tree.file("a")
        self.assertEqual(repr(tree), "Tree(1 entries)")
        for size in range(11):
            tree.file(f"b{size}")
        self.assertEqual(repr(tree), "Tree(12 entries)")

    def test_in(self):
        tree = example()
        tree.link("away", "nothing")
        for path in ("docs", "DOCS/old", "l", "l/a.TXT", "Docs/Old/a.txt", "readme", "AWAY"):
            self.assertIs(path in tree, True, path)
        for path in ("x", "docs/x", "readme/x", "l/x", "away/x", "nothing", "docs/old/a.txt/x"):
            self.assertIs(path in tree, False, path)
        for thing in no_paths():
            self.assertIs(thing in tree, False)
            self.assertIs(thing not in tree, True)

    def test_questions_change_nothing(self):
        tree = example()
        for path in (None, "docs", "l", "readme", "x", "l/a.txt"):
            for method in (tree.kind, tree.real_path, tree.target, tree.read, tree.end, tree.table_of, tree.names):
                try:
                    method(path)
                except (ValueError, KeyError, RuntimeError):
                    pass
        len(tree), repr(tree), "docs" in tree, list(tree.walk()), tree.copy(), tree.same(tree)
        self.assertTrue(tree.same(example()))


if __name__ == "__main__":
    unittest.main()

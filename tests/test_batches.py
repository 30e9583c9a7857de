"""[12]: deeds and batches."""

import copy
import unittest

from namesone.errors import NoDeed
from namesone.trees import Tree
from tests.test_trees import TreeCase, example
from tests.values import any_values, low_table, no_numbers, no_paths

DEEDS = [
    ("folder", "New"), ("file", "new/F", 4), ("link", "L2", "NEW"), ("write", "l2/f", 5), ("move", "l2/f", "docs/G"),
    ("remove", "l"), ("move", "docs", "DOCS"), ("write", "readme", -7), ("remove", "docs/old/a.txt"),
]


def done(tree, deeds):
    """Does deeds by the methods of a tree."""
    for name, *given in deeds:
        getattr(tree, name)(*given)
    return tree


class BatchTest(TreeCase):
    def test_each_deed_does_the_same_as_the_method(self):
        for size in range(len(DEEDS) + 1):
            tree = example()
            self.assertIsNone(tree.batch(DEEDS[:size]))
            self.assertTrue(tree.same(done(example(), DEEDS[:size])))
        self.assertEqual(list(tree.walk()), [
            ("DOCS", "folder", None), ("DOCS/G", "file", 5), ("DOCS/Old", "folder", None), ("L2", "link", "NEW"),
            ("New", "folder", None), ("Readme", "file", -7)])

    def test_no_deeds(self):
        tree = example()
        self.assertIsNone(tree.batch([]))
        self.assertTrue(tree.same(example()))

    def test_a_later_deed_builds_on_an_earlier_one(self):
        tree = Tree(low_table())
        self.unchanged(tree, (NoDeed, 0), tree.batch, [("file", "a/b", 1), ("folder", "a")])
        tree.batch([("folder", "a"), ("file", "A/b", 1), ("remove", "a"), ("folder", "A")])
        self.assertEqual(list(tree.walk()), [("A", "folder", None)])

    def test_all_or_none(self):
        wrong = [
            ("folder", "docs"), ("folder", "x/y"), ("file", "readme", 1), ("file", "x/y", 1), ("link", "L", "x"),
            ("write", "docs", 1), ("write", "x", 1), ("remove", "x"), ("move", "x", "y"), ("move", "docs", "docs/x"),
            ("move", "docs", "readme"), ("move", "docs", "x/y")]
        right = [("folder", "New"), ("file", "new/f", 1), ("write", "new/F", 2)]
        for deed in wrong:
            for at in range(4):
                tree = example()
                self.unchanged(tree, (NoDeed, at), tree.batch, right[:at] + [deed] + right[at:])
                self.unchanged(tree, (NoDeed, at), tree.batch, right[:at] + [deed, deed, None])

    def test_what_is_no_deed(self):
        tree = example()
        wrong = [
            ("folder",), ("folder", "x", "y"), ("folder", "x", None), ("folder", "x", low_table()), ("file", "x"),
            ("file", "x", 1, 2), ("link", "x"), ("link", "x", "y", "z"), ("write", "readme"), ("remove",),
            ("remove", "docs", "l"), ("move", "docs"), ("move", "docs", "x", "y"), ("change", "docs", low_table()),
            ("read", "readme"), ("kind", "docs"), ("copy",), ("walk",), ("names",), ("lay", []), ("batch", []),
            ("Folder", "x"), ("", "x"), (("folder",), "x"), (["folder"], "x"), (True, "x"), (None, "x"), ({}, "x"),
            ["folder", "x"], ["file", "x", 1], {"folder": "x"}, "folder x", "folder", (), [], ("folder", ["x"]),
            (b"folder", "x"), ("_trail_to", "docs"), ("__len__",)]
        for thing in wrong:
            self.unchanged(tree, (NoDeed, 0), tree.batch, [thing])
            self.unchanged(tree, (NoDeed, 1), tree.batch, [("folder", "x"), thing, ("folder", "x")])

    def test_any_values(self):
        tree = example()
        for thing in any_values():
            self.unchanged(tree, (NoDeed, 0), tree.batch, [thing])
            self.unchanged(tree, (NoDeed, 2), tree.batch, [("folder", "x"), ("remove", "x"), thing])
            if not isinstance(thing, list):
                self.unchanged(tree, (NoDeed, 0), tree.batch, thing)

    def test_what_is_no_list(self):
        tree = example()
        for thing in (None, (), (("folder", "x"),), tuple(DEEDS), {0: ("folder", "x")}, "folder x", 0, True,
                      ("folder", "x")):
            self.unchanged(tree, (NoDeed, 0), tree.batch, thing)

    def test_deeds_with_no_paths_and_no_numbers(self):
        tree = example()
        for thing in no_paths():
            for deed in (("folder", thing), ("file", thing, 1), ("link", thing, "x"), ("link", "x", thing),
                         ("write", thing, 1), ("remove", thing), ("move", thing, "x"), ("move", "docs", thing)):
                self.unchanged(tree, (NoDeed, 1), tree.batch, [("folder", "x1"), deed])
        for thing in no_numbers():
            for deed in (("file", "x", thing), ("write", "readme", thing)):
                self.unchanged(tree, (NoDeed, 1), tree.batch, [("folder", "x1"), deed])

    def test_what_is_handed_over_stays(self):
        tree = example()
        deeds = copy.deepcopy(DEEDS)
        tree.batch(deeds)
        self.assertEqual(deeds, DEEDS)
        deeds.append(["x"])
        kept = copy.deepcopy(deeds)
        with self.assertRaises(NoDeed):
            example().batch(deeds)
        self.assertEqual(deeds, kept)


if __name__ == "__main__":
    unittest.main()

"""[2]: trees as large, as deep and with as many links as a caller may make them."""

import unittest

from namesone.archives import parting_items
from namesone.listings import Listing
from namesone.races import least_apart, race
from namesone.trees import Tree
from tests.test_trees import TreeCase
from tests.values import low_table, plain_table

DEPTH = 100


def deep_tree():
    """A tree with folders a hundred deep, links to some of them, and a file in the last one."""
    tree = Tree(low_table())
    tree.folder("A")
    tree.file("a/f", 1)
    for _ in range(DEPTH - 1):
        tree.folder("x")
        tree.move("a", "x/A")
        tree.move("x", "A")
    tree.link("l0", "a/a/a/a/a")
    for at in range(1, 20):
        tree.link(f"l{at}", f"l{at - 1}/a/a/a/a/a")
    return tree


class DeepTest(TreeCase):
    def test_it_is_so_deep(self):
        tree = deep_tree()
        self.assertEqual(len(tree), DEPTH + 1 + 20)
        self.assertEqual(tree.end("l19"), "/".join(["A"] * DEPTH))
        self.assertEqual(tree.real_path("L19/F"), "/".join(["A"] * DEPTH + ["f"]))
        self.assertEqual(list(tree.walk())[DEPTH], ("/".join(["A"] * DEPTH + ["f"]), "file", 1))

    def test_copies_that_differ_at_the_end(self):
        for change in (lambda tree: tree.write("l19/f", 2), lambda tree: tree.move("l19/f", "l19/F"),
                       lambda tree: tree.remove("l19/f"), lambda tree: tree.change("l19", plain_table()),
                       lambda tree: tree.file("l19/g")):
            tree = deep_tree()
            other = tree.copy()
            self.assertTrue(tree.same(other))
            change(other)
            self.assertFalse(tree.same(other))
            self.assertTrue(tree.same(deep_tree()))
            change(tree)
            self.assertTrue(tree.same(other))

    def test_races(self):
        tree = deep_tree()
        one = [("file", "l19/x", 1), ("write", "l19/f", 2), ("remove", "l0"), ("folder", "q")]
        other = [("file", "l0/x", 1), ("folder", "L0/y"), ("file", "l18/z", 3), ("write", "Q", 1)]
        self.assertEqual(least_apart(tree, one, other), "00100111")
        self.assertEqual(race(tree, one, other, "00001111")[1:], ([True] * 4, [False] * 4))
        self.assertEqual(race(tree, one, other, "00111010")[1:], ([True] * 4, [True, True, True, False]))

    def test_batches_archives_and_listings(self):
        tree = deep_tree()
        tree.batch([("file", "l19/G", 2), ("remove", "l19/f")])
        tree.lay([("a/a/a/a/a/x", 1), ("A/B", None)])
        self.assertEqual(parting_items(tree, [("a/a/a/a/a/X", 1), ("A/B", None), ("a/a/a/a/a/y", 2)]), None)
        self.assertEqual(list(Listing(tree, "l19").rest()), ["G"])
        self.assertEqual(list(Listing(tree, "l0").rest()), ["A", "x"])

    def test_what_cannot_be_moved(self):
        tree = deep_tree()
        before = tree.copy()
        for path in ("a", "a/a", "a/a/a/a/a/a"):
            with self.assertRaises(RuntimeError):
                tree.move(path, "l19/x")
        self.assertTrue(tree.same(before))


class LinksTest(TreeCase):
    def test_a_chain_of_links(self):
        tree = Tree(low_table())
        tree.folder("d")
        tree.file("d/f", 1)
        for at in range(60):
            tree.link(f"l{at}", "d" if at == 0 else f"L{at - 1}")
        self.assertEqual([tree.end("l59"), tree.read("l59/f"), "l59/F" in tree], ["d", 1, True])
        self.assertEqual(list(Listing(tree, "l59").rest()), ["f"])
        one, other = [("remove", "l0"), ("link", "l0", "l59")], [("write", "l59/f", 2)]
        self.assertEqual(least_apart(tree, one, other), "100")
        tree.batch(one)
        self.assertEqual([tree.end(f"l{at}") for at in range(60)], [None] * 60)

    def test_links_that_name_links_many_times(self):
        tree = Tree(low_table())
        tree.folder("d")
        tree.link("d/l0", "d")
        for at in range(1, 59):
            tree.link(f"d/l{at}", "/".join(["d"] + [f"l{at - 1}"] * 5))
        self.assertEqual([tree.end("d/l58"), tree.end("d/l58/l58/l58")], ["d", "d"])
        tree.remove("d/l0")
        self.assertIsNone(tree.end("d/l58"))


class WideTest(TreeCase):
    def test_three_hundred_entries(self):
        tree = Tree(low_table())
        for at in range(280):
            tree.file(f"F{at}", at)
        other = tree.copy()
        self.assertEqual(len(list(tree.walk())), 280)
        self.assertTrue(tree.same(other))
        other.move("f279", "f279")
        self.assertFalse(tree.same(other))
        listing = Listing(tree)
        found = []
        while (name := listing.give()) is not None:
            found.append(name)
            tree.move(name, name.lower() if len(found) % 2 else name)
            if len(found) % 30 == 0:
                tree.remove(name)
        self.assertEqual(found, sorted(f"F{at}" for at in range(280)))


if __name__ == "__main__":
    unittest.main()

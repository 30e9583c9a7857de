"""[11]: links, their ends, and paths through them."""

import unittest

from namesone.errors import Missing, NoFile
from namesone.trees import Tree
from tests.test_trees import TreeCase
from tests.values import document_table, low_table, plain_table


def linked():
    """A tree with links to a folder, a file, links and nothing."""
    tree = Tree(low_table())
    tree.folder("Dir")
    tree.folder("Dir/Sub", table=plain_table())
    tree.file("Dir/Sub/File", 3)
    tree.link("toDir", "dir")
    tree.link("toSub", "todir/sub")
    tree.link("toFile", "TOSUB/File")
    tree.link("toLink", "tofile")
    tree.link("toNothing", "dir/nothing")
    tree.link("overFile", "tofile/x")
    tree.link("badCase", "tosub/file")
    return tree


class EndTest(TreeCase):
    def test_ends(self):
        tree = linked()
        for path, end in (
                ("todir", "Dir"), ("TOSUB", "Dir/Sub"), ("tofile", "Dir/Sub/File"), ("tolink", "Dir/Sub/File"),
                ("tonothing", None), ("overfile", None), ("badcase", None), ("todir/SUB", "Dir/Sub"),
                ("todir/sub/File", "Dir/Sub/File"), ("tosub/file", None), ("tolink/x", None), ("tonothing/x", None)):
            self.assertEqual(tree.end(path), end, path)

    def test_what_is_asked_of_the_link_itself(self):
        tree = linked()
        for name in ("toDir", "toSub", "toFile", "toLink", "toNothing", "overFile", "badCase"):
            self.assertEqual(tree.kind(name.upper()), "link")
            self.assertEqual(tree.real_path(name.lower()), name)
            self.assertIn(name, tree)

    def test_what_is_asked_of_the_end(self):
        tree = linked()
        self.assertEqual(tree.read("tolink"), 3)
        tree.write("toLINK", 9)
        self.assertEqual(tree.read("dir/sub/File"), 9)
        self.assertEqual(tree.names("todir"), ["Sub"])
        self.assertEqual(tree.table_of("tosub"), plain_table())
        for path in ("tonothing", "overfile", "badcase", "todir"):
            self.unchanged(tree, (NoFile, path), tree.read, path)
            self.unchanged(tree, (NoFile, path), tree.write, path, 1)
        for path in ("tonothing", "overfile", "badcase", "tofile", "tolink"):
            self.unchanged(tree, (Missing, path), tree.names, path)
            self.unchanged(tree, (Missing, path), tree.table_of, path)
            self.unchanged(tree, (Missing, path), tree.change, path, low_table())

    def test_new_entries_through_links(self):
        tree = linked()
        tree.folder("tosub/New")
        tree.file("todir/Sub/new", 1)
        tree.link("tosub/NEW", "toSub")
        self.assertEqual(tree.names("dir/sub"), ["File", "NEW", "New", "new"])
        self.assertEqual(tree.table_of("todir/sub/New"), plain_table())
        self.assertEqual(tree.real_path("dir/Sub/NEW/NEW/NEW/File"), "Dir/Sub/File")
        for path in ("tofile/x", "tonothing/x", "badcase/x"):
            self.unchanged(tree, (Missing, path), tree.folder, path)

    def test_a_target_is_followed_from_the_root(self):
        tree = linked()
        tree.link("dir/up", "sub")
        self.assertIsNone(tree.end("dir/up"))
        tree.file("Sub", 5)
        self.assertEqual(tree.end("dir/up"), "Sub")

    def test_an_end_is_asked_of_the_tree_as_it_is_now(self):
        tree = linked()
        tree.file("todir/nothing", 1)
        self.assertEqual(tree.end("tonothing"), "Dir/nothing")
        tree.move("dir", "other")
        self.assertIsNone(tree.end("tonothing"))
        self.assertIsNone(tree.end("tolink"))
        tree.move("other", "DIR")
        self.assertEqual(tree.end("tolink"), "DIR/Sub/File")
        tree.change("tosub", low_table())
        self.assertEqual(tree.end("badcase"), "DIR/Sub/File")


class CircleTest(TreeCase):
    def none(self, tree, *paths):
        for path in paths:
            self.assertIsNone(tree.end(path), path)
            self.assertEqual(tree.kind(path), "link")
            self.assertIn(path, tree)
            self.assertNotIn(path + "/x", tree)
            self.unchanged(tree, (NoFile, path), tree.read, path)
            self.unchanged(tree, (Missing, path + "/x"), tree.file, path + "/x")
            self.unchanged(tree, (Missing, path), tree.names, path)

    def test_a_link_to_itself(self):
        tree = Tree(low_table())
        tree.link("a", "A")
        self.none(tree, "a", "A")

    def test_a_link_through_itself(self):
        tree = Tree(low_table())
        tree.link("a", "A/b")
        tree.folder("d")
        tree.link("d/b", "D/B/c")
        tree.link("d/c", "d/c")
        self.none(tree, "a", "d/b", "d/c")

    def test_links_in_a_circle(self):
        tree = Tree(low_table())
        for one, other in ("ab", "bc", "cd", "da", "ea", "fe"):
            tree.link(one, other)
        self.none(tree, *"abcdef")

    def test_a_circle_beside_which_others_end(self):
        tree = Tree(low_table())
        tree.folder("d")
        tree.link("a", "d")
        tree.link("b", "a/c")
        tree.link("d/c", "b")
        tree.link("e", "a")
        tree.link("d/f", "e/c")
        self.none(tree, "b", "d/c", "a/c", "e/f", "d/f")
        self.assertEqual(tree.end("a"), "d")
        self.assertEqual(tree.end("e"), "d")
        tree.remove("b")
        tree.file("b", 1)
        self.assertEqual(tree.end("e/f"), "b")

    def test_a_folder_may_hold_a_link_to_itself(self):
        tree = Tree(low_table())
        tree.folder("d")
        tree.link("d/Self", "D")
        self.assertEqual(tree.end("d/self/self/self/self/self"), "d")
        self.assertEqual(tree.real_path("d/self/self/SELF"), "d/Self")
        tree.file("d/self/f", 6)
        self.assertEqual(tree.read("d/self/self/f"), 6)
        self.assertEqual([row[0] for row in tree.walk()], ["d", "d/Self", "d/f"])

    def test_a_circle_is_opened(self):
        tree = Tree(low_table())
        tree.link("a", "b")
        tree.link("b", "a")
        tree.move("b", "c")
        self.assertIsNone(tree.end("a"))
        self.assertIsNone(tree.end("c"))
        tree.file("B", 1)
        self.assertEqual(tree.end("a"), "B")
        self.assertEqual(tree.end("c"), "B")


class ManyLinksTest(TreeCase):
    def test_a_chain_of_sixty_links(self):
        for turn in (1, -1):
            tree = Tree(low_table())
            for at in range(60)[::turn]:
                tree.link(f"l{at}", f"L{at + 1}")
            self.assertIsNone(tree.end("l0"))
            tree.file("l60", 4)
            self.assertEqual(tree.end("l0"), "l60")
            self.assertEqual(tree.read("l0"), 4)
            self.assertEqual(len(tree), 61)

    def test_a_chain_through_folders(self):
        tree = Tree(low_table())
        tree.folder("d")
        tree.link("d/l0", "d")
        for at in range(1, 60):
            tree.link(f"d/l{at}", f"d/l{at - 1}/l0")
        self.assertEqual(tree.end("d/l59/l59"), "d")

    def test_links_whose_names_are_links_many_times_over(self):
        tree = Tree(document_table())
        tree.folder("d")
        tree.link("d/l0", "d")
        for at in range(1, 59):
            tree.link(f"d/l{at}", "d/" + "/".join([f"l{at - 1}"] * 5))
        tree.link("d/last", "d/" + "/".join(["l58"] * 4) + "/x")
        self.assertEqual(tree.end("d/l58/l58/l58/l58/l58"), "d")
        self.assertIn("d/l58/l57/l58/l57/last", tree)
        self.assertIsNone(tree.end("d/last"))
        tree.link("d/x", "d/last")
        self.assertIsNone(tree.end("d/last"))
        self.assertIsNone(tree.end("d/x"))


if __name__ == "__main__":
    unittest.main()

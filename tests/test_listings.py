"""[17] and [3]: listings, which go on while the tree changes."""

import inspect
import itertools
import random
import unittest

from namesone.errors import Missing, NoPath, Stale
from namesone.listings import Listing
from namesone.tables import Table
from namesone.trees import Tree
from tests.test_trees import TreeCase, example
from tests.values import document_table, error_of, low_table, no_paths, plain_table

NAMES = ["d", "B", "a", "C"]


def tree_with(names, table=None):
    tree = Tree(low_table() if table is None else table)
    for name in names:
        tree.file(name)
    return tree


def given(listing, most=100):
    """The names that a listing gives until there is none."""
    return list(itertools.takewhile(lambda name: name is not None, (listing.give() for _ in range(most))))


class ListingCase(TreeCase):
    def stays(self, listing, error):
        """Checks that a listing cannot go on, and that this changes nothing."""
        last = listing.last
        for _ in range(2):
            self.refuses(error, listing.give)
            self.refuses(error, next, listing.rest())
            self.assertEqual(listing.last, last)


class GiveTest(ListingCase):
    def test_names_in_the_order_of_their_keys(self):
        listing = Listing(tree_with(NAMES))
        self.assertEqual([listing.give() for _ in range(7)], ["a", "B", "C", "d", None, None, None])

    def test_last(self):
        listing = Listing(tree_with(NAMES))
        self.assertIsNone(listing.last)
        lasts = []
        while listing.give() is not None:
            lasts.append(listing.last)
        self.assertEqual(lasts, ["a", "b", "c", "d"])
        self.assertEqual([listing.last, listing.give(), listing.last], ["d", None, "d"])

    def test_keys_are_compared_as_strings(self):
        names = ["a", "b", "A", "Z", "1", "12", "2", "a1", "'", "-", "~", "aa", "."]
        self.assertEqual(given(Listing(tree_with(names, plain_table()))), sorted(names))
        table = document_table()
        names = ["b1:", "b", "1", "Ab", "':", "B", "ab~", "a:", "b1"]
        self.assertEqual(given(Listing(tree_with(names, table))), sorted(names, key=table))
        self.assertEqual(given(Listing(tree_with(["A", "b"], Table({"A": "z"}, {})))), ["b", "A"])

    def test_as_the_names_of_a_tree(self):
        tree = example()
        tree.folder("p", table=plain_table())
        for name in ("x", "X", "1", "~"):
            tree.file("p/" + name)
        for path in (None, "docs", "DOCS/old", "l", "p"):
            self.assertEqual(given(Listing(tree, path)), tree.names(path))
            self.assertEqual(list(Listing(tree, path).rest()), tree.names(path))

    def test_an_empty_folder(self):
        tree = example()
        tree.folder("e")
        for listing in (Listing(tree, "e"), Listing(Tree(low_table()))):
            self.assertEqual([listing.give(), listing.give(), listing.last], [None, None, None])
            self.assertEqual(list(listing.rest()), [])

    def test_all_kinds_of_entries_but_not_what_is_in_them(self):
        tree = example()
        self.assertEqual(given(Listing(tree)), ["Docs", "l", "Readme"])
        self.assertEqual(given(Listing(tree, "docs")), ["Old"])

    def test_through_a_link(self):
        tree = example()
        tree.file("docs/old/b")
        self.assertEqual(given(Listing(tree, "l")), ["a.txt", "b"])
        tree.link("l2", "L")
        self.assertEqual(given(Listing(tree, "L2")), ["a.txt", "b"])
        tree.link("docs/up", "docs")
        self.assertEqual(given(Listing(tree, "docs/up/up/old")), ["a.txt", "b"])


class NewListingTest(ListingCase):
    def test_values_that_are_no_paths(self):
        tree = example()
        for thing in no_paths():
            if thing is not None:
                self.unchanged(tree, (NoPath, thing), Listing, tree, thing)
                self.unchanged(tree, (NoPath, thing), Listing.behind, tree, "a", thing)

    def test_paths_that_are_missing(self):
        tree = example()
        tree.link("away", "nothing")
        tree.link("self", "self")
        tree.link("tofile", "readme")
        for path in ("x", "docs/x", "readme", "docs/old/a.txt", "readme/x", "away", "self", "tofile", "away/x", "l/x"):
            self.unchanged(tree, (Missing, path), Listing, tree, path)
            self.unchanged(tree, (Missing, path), Listing.behind, tree, "a", path)

    def test_by_name_in_another_order(self):
        tree = example()
        self.assertEqual(Listing(path="docs", tree=tree).give(), "Old")
        self.assertEqual(Listing(tree=tree).give(), "Docs")
        self.assertEqual(Listing(tree=tree, path=None).give(), "Docs")
        self.assertEqual(Listing.behind(path="l", key="", tree=tree).give(), "a.txt")
        self.assertEqual(Listing.behind(key="docs", tree=tree).give(), "l")

    def test_making_one_changes_nothing(self):
        tree = example()
        Listing(tree), Listing(tree, "docs"), Listing.behind(tree, "a")
        self.assertTrue(tree.same(example()))
        given(Listing(tree))
        self.assertTrue(tree.same(example()))

    def test_what_is_a_property_and_what_yields(self):
        own = vars(Listing)
        self.assertIsInstance(own["last"], property)
        self.assertIsInstance(own["behind"], classmethod)
        self.assertTrue(inspect.isgeneratorfunction(own["rest"]))
        self.assertIs(type(Listing.behind(example(), "a")), Listing)


class BehindTest(ListingCase):
    def test_a_key(self):
        tree = tree_with(NAMES)
        for key, names in (("a", ["B", "C", "d"]), ("b", ["C", "d"]), ("c", ["d"]), ("d", [])):
            listing = Listing.behind(tree, key)
            self.assertEqual(listing.last, key)
            self.assertEqual(given(listing), names)
            self.assertEqual(list(Listing.behind(tree, key).rest()), names)

    def test_any_string(self):
        tree = tree_with(NAMES)
        for key, names in (
                ("", ["a", "B", "C", "d"]), ("A", ["a", "B", "C", "d"]), ("Z", ["a", "B", "C", "d"]),
                ("C", ["a", "B", "C", "d"]), ("\n", ["a", "B", "C", "d"]), ("aa", ["B", "C", "d"]),
                ("a/b", ["B", "C", "d"]), ("b ", ["C", "d"]), ("cz" * 100, ["d"]), ("dd", []), ("~", []),
                ("\u00e9", [])):
            listing = Listing.behind(tree, key)
            self.assertEqual(listing.last, key)
            self.assertEqual(given(listing), names, key)

    def test_the_empty_string_is_not_none(self):
        listing = Listing.behind(Tree(low_table()), "")
        self.assertEqual(listing.last, "")
        self.assertIsNone(listing.give())
        self.assertEqual(listing.last, "")
        self.assertIsNone(Listing(Tree(low_table())).last)

    def test_a_listing_goes_on_where_another_one_was(self):
        tree = tree_with(NAMES)
        listing = Listing(tree)
        names = []
        while (name := listing.give()) is not None:
            names.append(name)
            listing = Listing.behind(tree, listing.last)
        self.assertEqual(names, ["a", "B", "C", "d"])

    def test_a_folder(self):
        tree = example()
        tree.file("docs/x")
        self.assertEqual(given(Listing.behind(tree, "old", "DOCS")), ["x"])
        self.assertEqual(given(Listing.behind(tree, "a.txt", "l")), [])

    def test_its_table_is_the_one_at_the_beginning(self):
        tree = tree_with(NAMES)
        listing = Listing.behind(tree, "b")
        tree.change(None, plain_table())
        self.stays(listing, (Stale, None))
        self.assertEqual(given(Listing.behind(tree, "b")), ["d"])


class ChangesTest(ListingCase):
    def listing_at_b(self, tree):
        listing = Listing(tree)
        self.assertEqual([listing.give(), listing.give()], ["a", "B"])
        return listing

    def test_entries_that_are_added(self):
        tree = tree_with(NAMES)
        listing = self.listing_at_b(tree)
        for name in ("a2", "AA", "b2", "X", "c1"):
            tree.file(name)
        tree.folder("Bb")
        tree.link("e", "a")
        self.assertEqual(given(listing), ["b2", "Bb", "C", "c1", "d", "e", "X"])
        tree.file("y")
        tree.file("a3")
        self.assertEqual(given(listing), ["y"])
        self.assertIsNone(listing.give())

    def test_entries_that_are_removed(self):
        tree = tree_with(NAMES)
        listing = self.listing_at_b(tree)
        tree.remove("b")
        tree.remove("c")
        self.assertEqual(given(listing), ["d"])
        listing = Listing(tree)
        self.assertEqual(listing.give(), "a")
        for name in tree.names():
            tree.remove(name)
        self.assertEqual([listing.give(), listing.last], [None, "a"])

    def test_an_entry_that_is_removed_and_added_again(self):
        tree = tree_with(NAMES)
        listing = self.listing_at_b(tree)
        for name, other in (("a", "A"), ("B", "b"), ("C", "c")):
            tree.remove(name)
            tree.file(other)
        self.assertEqual(given(listing), ["c", "d"])

    def test_entries_that_are_renamed(self):
        tree = tree_with(NAMES)
        listing = self.listing_at_b(tree)
        tree.move("a", "x")
        tree.move("d", "aa")
        tree.move("c", "c")
        self.assertEqual(given(listing), ["c", "x"])

    def test_spellings_that_change(self):
        tree = tree_with(NAMES)
        listing = self.listing_at_b(tree)
        for name, other in (("a", "A"), ("b", "b"), ("C", "c"), ("d", "D")):
            tree.move(name, other)
        self.assertEqual(given(listing), ["c", "D"])

    def test_entries_that_are_moved_to_other_folders(self):
        tree = tree_with(NAMES)
        tree.folder("z")
        tree.file("z/f")
        listing = self.listing_at_b(tree)
        tree.move("c", "z/c")
        tree.move("z/f", "f")
        tree.move("a", "z/a")
        self.assertEqual(given(listing), ["d", "f", "z"])
        self.assertEqual(given(Listing(tree, "z")), ["a", "c"])

    def test_batches_and_archives(self):
        tree = tree_with(NAMES)
        listing = self.listing_at_b(tree)
        tree.batch([("remove", "c"), ("file", "e", 1)])
        self.assertEqual(listing.give(), "d")
        tree.lay([("aa", 1), ("F", None), ("g/h", 1)])
        self.assertEqual(given(listing), ["e", "F", "g"])

    def test_a_copy_is_not_seen(self):
        tree = tree_with(NAMES)
        other = tree.copy()
        listing = self.listing_at_b(tree)
        there = Listing(other)
        other.remove("c")
        other.file("e")
        other.change(None, plain_table())
        self.assertEqual(given(listing), ["C", "d"])
        self.stays(there, (Stale, None))
        other.change(None, low_table())
        tree.remove("a")
        self.assertEqual(given(there), ["a", "B", "d", "e"])

    def test_two_side_by_side(self):
        tree = tree_with(NAMES)
        one, other = Listing(tree), Listing(tree)
        found = other.rest()
        self.assertEqual([one.give(), one.give()], ["a", "B"])
        self.assertEqual(next(found), "a")
        tree.file("bb")
        self.assertEqual([one.give(), next(found), next(found)], ["bb", "B", "bb"])
        tree.remove("c")
        self.assertEqual([one.give(), next(found), one.give()], ["d", "d", None])
        self.assertEqual(list(found), [])
        self.assertEqual((one.last, other.last), ("d", "d"))

    def test_rest_and_give_share_what_was_given(self):
        tree = tree_with(NAMES)
        listing = Listing(tree)
        found = listing.rest()
        self.assertEqual([next(found), listing.give(), next(found)], ["a", "B", "C"])
        self.assertEqual(listing.last, "c")
        another = listing.rest()
        self.assertEqual([next(another), list(found), list(another), listing.give()], ["d", [], [], None])
        tree.file("e")
        self.assertEqual(list(listing.rest()), ["e"])

    def test_rest_gives_each_name_when_it_is_taken(self):
        tree = tree_with(NAMES)
        listing = Listing(tree)
        names = []
        for name in listing.rest():
            names.append(name)
            self.assertEqual(listing.last, name.lower())
            if name == "B":
                tree.remove("c")
                tree.file("cc")
                tree.file("0")
        self.assertEqual(names, ["a", "B", "cc", "d"])

    def test_rest_of_nothing_taken(self):
        listing = Listing(tree_with(NAMES))
        listing.rest()
        self.assertIsNone(listing.last)
        self.assertEqual(listing.give(), "a")


class FolderTest(ListingCase):
    def tree(self):
        tree = example()
        for name in NAMES:
            tree.file("docs/" + name)
        return tree

    def listing(self, tree, path="Docs"):
        listing = Listing(tree, path)
        self.assertEqual([listing.give(), listing.give()], ["a", "B"])
        return listing

    def test_a_folder_that_is_removed_and_put_anew(self):
        tree = self.tree()
        listing = self.listing(tree)
        tree.remove("docs")
        self.stays(listing, (Missing, "Docs"))
        tree.file("DOCS")
        self.stays(listing, (Missing, "Docs"))
        tree.remove("docs")
        tree.folder("dOCS")
        self.assertIsNone(listing.give())
        for name in ("A", "b", "BB", "x"):
            tree.file("docs/" + name)
        self.assertEqual(given(listing), ["BB", "x"])

    def test_the_path_is_told_as_it_was_handed_over(self):
        tree = self.tree()
        listings = [Listing(tree, path) for path in ("docs", "DOCS", "Docs", "docs/old", "L")]
        tree.remove("docs")
        for listing, path in zip(listings, ("docs", "DOCS", "Docs", "docs/old", "L")):
            self.stays(listing, (Missing, path))

    def test_a_folder_that_is_moved(self):
        tree = self.tree()
        listing = self.listing(tree)
        tree.move("docs", "other")
        self.stays(listing, (Missing, "Docs"))
        tree.folder("docs")
        tree.file("docs/q")
        self.assertEqual(given(listing), ["q"])
        tree.remove("docs")
        tree.move("other", "DOCS")
        tree.file("docs/R")
        self.assertEqual(given(listing), ["R"])
        self.assertEqual(given(Listing.behind(tree, "b", "docs")), ["C", "d", "Old", "R"])

    def test_another_folder_at_the_path(self):
        tree = self.tree()
        tree.folder("new")
        for name in ("A", "bb", "z"):
            tree.file("new/" + name)
        listing = self.listing(tree)
        tree.move("docs", "old")
        tree.move("new", "docs")
        self.assertEqual(given(listing), ["bb", "z"])

    def test_another_folder_with_another_table(self):
        tree = self.tree()
        listing = self.listing(tree)
        tree.remove("docs")
        tree.folder("docs", table=plain_table())
        tree.file("docs/z")
        self.stays(listing, (Stale, "Docs"))
        tree.remove("docs")
        self.stays(listing, (Missing, "Docs"))
        tree.folder("docs", table=low_table())
        tree.file("docs/z")
        self.assertEqual(given(listing), ["z"])

    def test_a_folder_spelled_in_another_way(self):
        tree = self.tree()
        listing = self.listing(tree)
        tree.move("docs", "DOCS")
        self.assertEqual(given(listing), ["C", "d", "Old"])

    def test_a_link_that_leads_elsewhere(self):
        tree = self.tree()
        tree.folder("new")
        tree.file("new/bb")
        tree.link("to", "docs")
        listing = self.listing(tree, "to")
        tree.remove("to")
        self.stays(listing, (Missing, "to"))
        tree.link("TO", "new")
        self.assertEqual(given(listing), ["bb"])
        tree.remove("to")
        tree.link("to", "readme")
        self.stays(listing, (Missing, "to"))
        tree.remove("to")
        tree.folder("to")
        tree.file("to/x")
        self.assertEqual(given(listing), ["x"])

    def test_a_link_that_has_no_end_now(self):
        tree = self.tree()
        tree.link("to", "docs/old")
        listing = Listing(tree, "TO")
        tree.move("docs/old", "docs/older")
        self.stays(listing, (Missing, "TO"))
        tree.move("docs/older", "docs/old")
        self.assertEqual(given(listing), ["a.txt"])

    def test_what_is_inside_does_not_matter(self):
        tree = self.tree()
        listing = self.listing(tree)
        tree.change("docs/old", plain_table())
        tree.change(None, plain_table())
        self.assertEqual(given(listing), ["C", "d", "Old"])


class StaleTest(ListingCase):
    def test_another_table_and_the_first_one_again(self):
        tree = tree_with(NAMES)
        listing = Listing(tree)
        listing.give()
        tree.change(None, plain_table())
        self.stays(listing, (Stale, None))
        tree.change(None, document_table())
        self.stays(listing, (Stale, None))
        tree.change(None, low_table())
        self.assertEqual(given(listing), ["B", "C", "d"])

    def test_an_equal_table(self):
        tree = tree_with(NAMES)
        listing = Listing(tree)
        listing.give()
        tree.change(None, low_table())
        self.assertEqual(given(listing), ["B", "C", "d"])

    def test_tables_that_differ_in_folds_or_marks_alone(self):
        first = Table({"A": "a"}, {"'": 1})
        for text in ("", "A=a", "':1", "A=b ':1", "A=a ':2", "A=a ':1 ::1", "A=a B=b ':1", "a=A ':1"):
            tree = Tree(first)
            tree.folder("d")
            tree.file("d/x")
            listing = Listing(tree, "d")
            # Some of these tell the same names to be one, but they are written otherwise.
            tree.change("d", Table.from_text(text))
            self.stays(listing, (Stale, "d"))
            tree.change("d", Table.from_text("A=a ':1"))
            self.assertEqual(given(listing), ["x"])

    def test_stale_even_if_there_is_no_name(self):
        tree = Tree(low_table())
        listing = Listing(tree)
        self.assertIsNone(listing.give())
        tree.change(None, plain_table())
        self.stays(listing, (Stale, None))
        self.assertIsNone(listing.last)

    def test_missing_comes_before_stale(self):
        tree = example()
        listing = Listing(tree, "docs")
        tree.change("docs", plain_table())
        self.stays(listing, (Stale, "docs"))
        tree.move("docs", "x")
        self.stays(listing, (Missing, "docs"))

    def test_rest_raises_when_a_name_is_taken(self):
        tree = tree_with(NAMES)
        listing = Listing(tree)
        found = listing.rest()
        self.assertEqual(next(found), "a")
        tree.change(None, plain_table())
        self.refuses((Stale, None), next, found)
        self.assertEqual(listing.last, "a")
        tree.change(None, low_table())
        self.assertEqual(list(listing.rest()), ["B", "C", "d"])

    def test_listings_made_before_and_behind_a_change(self):
        tree = tree_with(NAMES)
        first = Listing(tree)
        tree.change(None, plain_table())
        second = Listing(tree)
        self.stays(first, (Stale, None))
        self.assertEqual(given(second), ["B", "C", "a", "d"])
        tree.change(None, low_table())
        self.stays(second, (Stale, None))
        self.assertEqual(given(first), ["a", "B", "C", "d"])


class RandomTest(ListingCase):
    TABLES = [low_table(), document_table(), Table({"b": "a", "A": "'"}, {"'": 1, ":": 2})]

    def name_of(self, chance):
        return "".join(chance.choices("aAbB1':", k=chance.choice([1, 1, 2, 3])))

    def change(self, chance, tree, stay):
        """Changes something, but not whether an entry is there that stays; some of these are spelled anew."""
        name = self.name_of(chance)
        table = tree.table_of("d")
        kind = chance.choice(["file", "file", "remove", "move", "out", "spell"])
        if kind == "spell":
            alike = [other for other in tree.names("d") if table(other) == table(name)]
            if alike:
                tree.move("d/" + alike[0], "d/" + name)
        elif kind == "file":
            error_of(tree.file, "d/" + name)
        elif table(name) not in stay:
            other = {"move": "d/" + self.name_of(chance), "out": "o/" + self.name_of(chance)}.get(kind)
            error_of(tree.remove, "d/" + name) if other is None else error_of(tree.move, "d/" + name, other)

    def test_each_entry_that_stays_exactly_once(self):
        for seed in range(300):
            chance = random.Random(seed)
            tree = Tree(chance.choice(self.TABLES))
            table = tree.table_of()
            tree.folder("d")
            tree.folder("o")
            for _ in range(chance.randint(0, 12)):
                error_of(tree.file, "d/" + self.name_of(chance))
            stay = {table(name) for name in tree.names("d") if chance.random() < 0.5}
            listing = Listing(tree, "D" if table("D") == "d" else "d")
            keys = []
            while True:
                keys_now = sorted(table(name) for name in tree.names("d"))
                last = listing.last
                expected = next((key for key in keys_now if last is None or key > last), None)
                name = listing.give()
                self.assertEqual(None if name is None else table(name), expected)
                self.assertIn(name, [None, *tree.names("d")])
                if name is None:
                    break
                keys.append(listing.last)
                for _ in range(chance.randint(0, 3)):
                    self.change(chance, tree, stay)
            self.assertEqual(keys, sorted(set(keys)))
            self.assertLessEqual(stay, set(keys))

    def test_a_large_folder(self):
        tree = Tree(low_table())
        names = [f"F{at}x" for at in range(295)]
        for name in names:
            tree.file(name)
        self.assertEqual(given(Listing(tree), 400), sorted(names))


if __name__ == "__main__":
    unittest.main()

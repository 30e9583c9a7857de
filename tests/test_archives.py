"""[14], [15] and [3]: archives whose items part."""

import copy
import itertools
import random
import unittest

from namesone.archives import parting_items
from namesone.errors import Clash
from namesone.tables import Table
from namesone.trees import Tree
from tests.model import Model
from tests.test_trees import TreeCase, example
from tests.values import document_table, error_of, low_table, plain_table

NAMES = ["a", "A", "1", "a'", "b", "':", ":'"]


def facts(model):
    """All that trees are compared by."""
    return (model.rows(), model.folder_tables())


def laid_out(model, items):
    """The facts of a copy in which items are laid out, or None if they cannot be."""
    changed = model.twin()
    return None if error_of(changed.lay, items) else facts(changed)


def first_clash(model, archive):
    """The index of the first item that cannot be laid out alone, or None."""
    return next((at for at, item in enumerate(archive) if laid_out(model, [item]) is None), None)


def parting_pairs(model, archive):
    """All pairs of indexes of items that part."""
    pairs = []
    for i, j in itertools.combinations(range(len(archive)), 2):
        there = laid_out(model, [archive[i], archive[j]])
        if there is None or there != laid_out(model, [archive[j], archive[i]]):
            pairs.append((i, j))
    return pairs


def all_orders_agree(model, archive):
    outcomes = [laid_out(model, list(items)) for items in itertools.permutations(archive)]
    return outcomes[0] is not None and all(outcome == outcomes[0] for outcome in outcomes)


def path_of(chance):
    return "/".join(chance.choices(NAMES, k=chance.choice([1, 1, 1, 2, 2, 3])))


def archive_of(chance, most):
    return [(path_of(chance), chance.choice([None, 0, 1])) for _ in range(chance.randint(0, most))]


def tree_and_model(chance):
    """A tree and a model in which the same was done."""
    table = chance.choice([low_table(), document_table(), plain_table(), Table({"b": "a"}, {"'": 1, ":": 2})])
    tree, model = Tree(table), Model(table)
    for _ in range(chance.randint(0, 6)):
        name = chance.choice(["folder", "file", "link", "change"])
        path = path_of(chance)
        given = {"folder": [path], "file": [path, chance.randint(0, 1)], "link": [path, path_of(chance)],
                 "change": [path, chance.choice([low_table(), document_table(), plain_table()])]}[name]
        for thing in (tree, model):
            error_of(getattr(thing, name), *given)
    return tree, model


class PartingItemsTest(TreeCase):
    def check(self, tree, archive, pair):
        """Checks the pair and that the tree and the archive stay."""
        before, kept = tree.copy(), copy.deepcopy(archive)
        found = parting_items(tree, archive)
        self.assertEqual(found, pair, archive)
        self.assertIs(type(found), type(pair), archive)
        self.assertTrue(tree.same(before))
        self.assertEqual(archive, kept)

    def test_less_than_two_items(self):
        for archive in ([], [("a", 1)], [("a/b/c", None)], [("readme", 7)]):
            self.check(example(), archive, None)

    def test_items_that_do_not_part(self):
        for archive in (
                [("a", 1), ("b", 2), ("c", None)],
                [("a/b", 1), ("a/c", 2), ("a", None), ("a/d/e", None)],
                [("a", None), ("a", None)],
                [("a/b/c", 1), ("a/b", None), ("a", None)],
                [("a", 1), ("a", 1)],
                # What is there keeps its spelling.
                [("DOCS", None), ("docs", None), ("docs/x", 1), ("DOCS/old/y", 1), ("Docs/OLD", None)],
                [("readme", 5), ("README", 5)],
                [("readme", 2), ("DOCS/OLD/A.TXT", 1)]):
            for items in itertools.permutations(archive):
                self.check(example(), list(items), None)

    def test_two_items_that_part(self):
        for one, other in (
                # Spelled in two ways.
                (("a", 1), ("A", 1)),
                (("a", None), ("A", None)),
                (("a/b", 1), ("A/c", 1)),
                (("a/b", None), ("A", None)),
                (("docs/x/y", 1), ("DOCS/X/z", 1)),
                # Two contents.
                (("a", 1), ("a", 2)),
                (("a", 0), ("a", 1)),
                (("readme", 1), ("README", 3)),
                (("readme", 2), ("README", 3)),
                # Two kinds.
                (("a", None), ("a", 1)),
                (("a", None), ("a", 0)),
                (("a", 1), ("a/b", 1)),
                (("a", 1), ("A/b", None)),
                (("docs/old/x", 1), ("docs/old/x/y/z", None))):
            self.check(example(), [one, other], (0, 1))
            self.check(example(), [other, one], (0, 1))
            self.check(example(), [("q", 1), one, ("docs", None), other, ("r/s", None)], (1, 3))

    def test_the_least_pair(self):
        self.check(example(), [("a", 1), ("b", 1), ("b", 2), ("a", 2)], (0, 3))
        self.check(example(), [("a", 1), ("b", 1), ("a", 2), ("b", 2)], (0, 2))
        self.check(example(), [("a", 1), ("a", 2), ("a", 3)], (0, 1))
        self.check(example(), [("a", 1), ("a", 1), ("a", 3)], (0, 2))
        self.check(example(), [("x", 1), ("a", 1), ("a", 1), ("a", 3)], (1, 3))
        self.check(example(), [(f"f{at}", 1) for at in range(7)] + [("F6", 1)], (6, 7))
        self.check(example(), [("f0", 2)] + [(f"f{at}", 1) for at in range(7)], (0, 1))

    def test_tables_tell_which_names_are_one(self):
        tree = Tree(low_table())
        tree.folder("p", table=plain_table())
        tree.folder("d", table=document_table())
        self.check(tree, [("p/a/b", 1), ("P/A/b", 2)], None)
        self.check(tree, [("p/a/b", 1), ("P/a/b", 2)], (0, 1))
        self.check(tree, [("p/n/b", 1), ("P/n/B", 2)], None)
        self.check(tree, [("d/n/1", 1), ("D/n/a'", 1)], (0, 1))
        self.check(tree, [("d/n/':", 1), ("D/n/:'", 1)], (0, 1))
        self.check(tree, [("d/n/b", 1), ("D/n/B", 2)], None)

    def test_an_item_that_cannot_be_laid_out_alone(self):
        for item in (("readme", None), ("readme/x", 1), ("docs", 1), ("l", 1), ("l", None), ("L/x", 1),
                     ("l/x/y", None)):
            self.check_clash(item)

    def check_clash(self, item):
        for at in range(4):
            items = [("a", 1), ("b/c", None), ("docs/x", 1)]
            items[at:at] = [item]
            tree = example()
            kept = copy.deepcopy(items)
            self.unchanged(tree, (Clash, at), parting_items, tree, items)
            self.unchanged(tree, (Clash, at), parting_items, tree, [*items, item, ("l/z", 1)])
            self.assertEqual(items, kept)

    def test_clashes_come_before_pairs(self):
        tree = example()
        self.unchanged(tree, (Clash, 2), parting_items, tree, [("a", 1), ("a", 2), ("l", 1)])
        self.unchanged(tree, (Clash, 3), parting_items, tree, [("a", 1), ("a", None), ("A", 2), ("readme/x", 1)])
        self.unchanged(tree, (Clash, 0), parting_items, tree, [("l", 1), ("readme", None)])

    def test_links_are_not_followed(self):
        tree = Tree(low_table())
        tree.folder("d")
        tree.link("l", "d")
        self.unchanged(tree, (Clash, 1), parting_items, tree, [("d/x", 1), ("l/x", 1)])

    def test_an_item_that_only_clashes_beside_another_one(self):
        tree = Tree(low_table())
        self.check(tree, [("a", 1), ("a/b", 1)], (0, 1))
        self.refuses((Clash, 1), tree.lay, [("a", 1), ("a/b", 1)])

    def test_against_laying_out_in_both_orders(self):
        seen = {"clash": 0, "pair": 0, "none": 0}
        for seed in range(400):
            chance = random.Random(seed)
            tree, model = tree_and_model(chance)
            archive = archive_of(chance, 8)
            clash = first_clash(model, archive)
            if clash is not None:
                self.unchanged(tree, (Clash, clash), parting_items, tree, archive)
                seen["clash"] += 1
            else:
                pairs = parting_pairs(model, archive)
                self.check(tree, archive, pairs[0] if pairs else None)
                seen["pair" if pairs else "none"] += 1
        self.assertGreater(min(seen.values()), 30, seen)

    def test_all_orders_agree_if_and_only_if_no_pair_parts(self):
        seen = {True: 0, False: 0}
        for seed in range(500):
            chance = random.Random(1000 + seed)
            tree, model = tree_and_model(chance)
            archive = archive_of(chance, 4)
            if first_clash(model, archive) is None:
                agree = all_orders_agree(model, archive)
                self.assertIs(parting_items(tree, archive) is None, agree, (seed, archive))
                if len(archive) > 1:
                    seen[agree] += 1
        self.assertGreater(min(seen.values()), 40, seen)

    def test_all_orders_in_trees(self):
        archives = (
            [("a/b", 1), ("a/c/d", None), ("docs/x", 3), ("readme", 4)],
            [("a/b", 1), ("a/c/d", None), ("docs/x", 3), ("A/e", 4)],
            [("a", 1), ("b", 1), ("readme", 5), ("README", 6)])
        for archive, agree in zip(archives, (True, False, False)):
            trees = []
            for items in itertools.permutations(archive):
                tree = example()
                tree.lay(list(items))
                trees.append(tree)
            self.assertIs(all(tree.same(trees[0]) for tree in trees), agree)
            self.assertIs(parting_items(example(), archive) is None, agree)

    def test_equal_calls_return_the_same(self):
        tree = example()
        archive = [("a", 1), ("b", 1), ("B", 1)]
        self.assertEqual([parting_items(tree, archive) for _ in range(3)], [(1, 2)] * 3)

    def test_a_large_tree(self):
        tree = Tree(low_table())
        for at in range(290):
            tree.file(f"f{at}", at)
        archive = [(f"d{at}/x", at) for at in range(8)]
        self.check(tree, archive, None)
        self.check(tree, archive[:7] + [("D6", None)], (6, 7))


if __name__ == "__main__":
    unittest.main()

"""[16] and [12]: orders of two programs, and what they do in them."""

import copy
import inspect
import itertools
import random
import unittest

from namesone.errors import Inside, Missing, NoFile, NoOrder, Present
from namesone.races import least_apart, orders, race
from namesone.tables import Table
from namesone.trees import Tree
from tests.model import Model
from tests.test_trees import TreeCase, example
from tests.values import any_values, document_table, error_of, low_table, plain_table

NAMES = ["a", "A", "b", "a'"]
TABLES = [low_table(), document_table(), plain_table(), Table({"b": "a"}, {})]


def strings_of(zeros, ones):
    """All strings with so many 0 and so many 1, ascending."""
    strings = ["".join(signs) for signs in itertools.product("01", repeat=zeros + ones)]
    return [text for text in strings if text.count("0") == zeros]


def deeds_of(size):
    """A program; what its deeds tell does not matter."""
    return [("remove", "a")] * size


def path_of(chance):
    return "/".join(chance.choices(NAMES, k=chance.choice([1, 1, 1, 2, 2, 3])))


def deed_of(chance):
    name = chance.choice(["folder", "folder", "file", "link", "write", "remove", "move", "move"])
    rest = {"folder": [], "remove": [], "file": [chance.randint(0, 9)], "write": [chance.randint(0, 9)],
            "link": [path_of(chance)], "move": [path_of(chance)]}[name]
    return (name, path_of(chance), *rest)


def was_done(thing, deed):
    """Does a deed by the method of a tree or a model; whether it raised no error."""
    try:
        getattr(thing, deed[0])(*deed[1:])
    except (Missing, Present, NoFile, Inside):
        return False
    return True


def outcome_of(model, one, other, order):
    """What is left of a race in a model: its rows, its tables and the two lists."""
    ran = model.twin()
    left = {"0": list(one), "1": list(other)}
    done = {"0": [], "1": []}
    for sign in order:
        done[sign].append(was_done(ran, left[sign].pop(0)))
    return (ran.rows(), ran.folder_tables(), done["0"], done["1"])


class OrdersTest(unittest.TestCase):
    def test_against_all_strings(self):
        for zeros, ones in itertools.product(range(5), repeat=2):
            found = list(orders(deeds_of(zeros), deeds_of(ones)))
            self.assertEqual(found, strings_of(zeros, ones))
            self.assertEqual(found, sorted(found))

    def test_small_ones(self):
        self.assertEqual(list(orders([], [])), [""])
        self.assertEqual(list(orders(deeds_of(2), [])), ["00"])
        self.assertEqual(list(orders([], deeds_of(3))), ["111"])
        self.assertEqual(list(orders(deeds_of(1), deeds_of(1))), ["01", "10"])
        self.assertEqual(list(orders(deeds_of(2), deeds_of(1))), ["001", "010", "100"])

    def test_it_yields(self):
        self.assertTrue(inspect.isgeneratorfunction(orders))
        found = orders(deeds_of(4), deeds_of(4))
        self.assertIs(iter(found), found)
        self.assertEqual(next(found), "00001111")
        self.assertEqual(next(found), "00010111")
        self.assertEqual(len(list(found)), 68)

    def test_programs_stay(self):
        one, other = deeds_of(2), deeds_of(3)
        self.assertEqual(len(list(orders(other=other, one=one))), 10)
        self.assertEqual((one, other), (deeds_of(2), deeds_of(3)))


class RaceTest(TreeCase):
    def check(self, tree, one, other, order, rows, first, second):
        """Checks an outcome, and that the tree and the programs stay."""
        before, kept = tree.copy(), copy.deepcopy((one, other))
        found = race(tree, one, other, order)
        self.assertIs(type(found), tuple)
        self.assertEqual(len(found), 3)
        self.assertIsInstance(found[0], Tree)
        self.assertIsNot(found[0], tree)
        self.assertEqual(list(found[0].walk()), rows)
        self.assertEqual(found[1:], (first, second))
        for told in [*found[1], *found[2]]:
            self.assertIs(type(told), bool)
        self.assertTrue(tree.same(before))
        self.assertEqual((one, other), kept)

    def test_who_comes_first(self):
        one, other = [("file", "a", 1)], [("file", "A", 2)]
        tree = Tree(low_table())
        self.check(tree, one, other, "01", [("a", "file", 1)], [True], [False])
        self.check(tree, one, other, "10", [("A", "file", 2)], [False], [True])

    def test_each_program_keeps_its_own_order(self):
        one = [("folder", "d"), ("file", "d/x", 1), ("remove", "d")]
        other = [("write", "D/x", 5), ("move", "d/x", "y")]
        tree = Tree(low_table())
        self.check(tree, one, other, "00011", [], [True, True, True], [False, False])
        self.check(tree, one, other, "00110", [("y", "file", 5)], [True, True, True], [True, True])
        self.check(tree, one, other, "00101", [], [True, True, True], [True, False])
        self.check(tree, one, other, "10010", [("y", "file", 1)], [True, True, True], [False, True])
        self.check(tree, one, other, "11000", [], [True, True, True], [False, False])

    def test_deeds_that_are_left_out(self):
        tree = example()
        rows = list(tree.walk())
        one = [("folder", "docs"), ("write", "docs", 1), ("remove", "x"), ("move", "docs", "docs/old/d")]
        other = [("file", "x/y", 1), ("link", "l", "x"), ("move", "x", "y"), ("write", "docs/old", 2)]
        for order in strings_of(4, 4):
            self.check(tree, one, other, order, rows, [False] * 4, [False] * 4)

    def test_what_follows_a_deed_that_is_left_out(self):
        tree = example()
        one = [("remove", "x"), ("remove", "l"), ("remove", "L"), ("file", "L", 3)]
        rows = [("Docs", "folder", None), ("Docs/Old", "folder", None), ("Docs/Old/a.txt", "file", 1), ("L", "file", 3),
                ("Readme", "file", 2)]
        self.check(tree, one, [], "0000", rows, [False, True, False, True], [])
        self.check(tree, [], one, "1111", rows, [], [False, True, False, True])

    def test_no_deeds(self):
        tree = example()
        rows = list(tree.walk())
        self.check(tree, [], [], "", rows, [], [])
        self.check(tree, [("write", "readme", 2)], [], "0", rows, [True], [])
        self.check(tree, [], [("write", "readme", 2)], "1", rows, [], [True])

    def test_each_kind_of_deed(self):
        deeds = [("folder", "New"), ("file", "new/F", 4), ("link", "L2", "NEW"), ("write", "l2/f", 5),
                 ("move", "l2/f", "docs/G"), ("remove", "l"), ("move", "docs", "DOCS"), ("write", "readme", -7)]
        tree, first, second = race(example(), deeds[:4], deeds[4:], "00001111")
        self.assertEqual((first, second), ([True] * 4, [True] * 4))
        expected = example()
        expected.batch(deeds)
        self.assertTrue(tree.same(expected))
        self.assertTrue(race(example(), deeds[4:], deeds[:4], "11110000")[0].same(expected))

    def test_values_that_are_no_orders(self):
        tree = example()
        one, other = [("remove", "l"), ("remove", "readme")], [("file", "x", 1)]
        wrong = [
            *any_values(), "", "0", "1", "00", "01", "10", "000", "111", "011", "110", "0010", "0011", "00 1", "001 ",
            " 001", "001\n", "00l", "0o1", "002", "00a", "-001", "00,1", "\u0660\u06601", "00\u00b9", 1, 10, 100,
            ["0", "0", "1"], ("0", "0", "1"), [0, 0, 1], {"0": 2, "1": 1}, b"001", "001" * 1000, None, True]
        for thing in wrong:
            self.unchanged(tree, (NoOrder, thing), race, tree, one, other, thing)
        for order in strings_of(2, 1):
            self.assertNotIn("l", race(tree, one, other, order)[0])
        for thing in ("0", "1", " ", None, [], 0, False):
            self.refuses((NoOrder, thing), race, tree, [], [], thing)
        self.assertEqual(race(tree, [], [], "")[1:], ([], []))
        for order in ("001", "010"):
            self.refuses((NoOrder, order), race, tree, other, one, order)

    def test_results_share_nothing(self):
        tree = example()
        one, other = [("remove", "x")], [("file", "x", 1)]
        found = race(tree, one, other, "01")
        found[0].remove("docs")
        found[1].clear()
        found[2].append(7)
        again = race(tree, one, other, "01")
        self.assertIn("docs", again[0])
        self.assertEqual(again[1:], ([False], [True]))
        self.assertIsNot(again[0], race(tree, one, other, "01")[0])
        again[0].remove("docs")
        self.assertTrue(tree.same(example()))

    def test_by_name_in_another_order(self):
        tree, first, second = race(order="10", other=[("remove", "l")], one=[("remove", "L")], tree=example())
        self.assertEqual((first, second, "l" in tree), ([False], [True], False))

    def test_against_deeds_one_by_one(self):
        seen = set()
        for seed in range(250):
            chance = random.Random(seed)
            table = chance.choice(TABLES)
            tree, model = Tree(table), Model(table)
            for _ in range(chance.randint(0, 6)):
                deed = deed_of(chance)
                self.assertIs(was_done(tree, deed), was_done(model, deed))
            before = tree.copy()
            one, other = [[deed_of(chance) for _ in range(chance.randint(0, 4))] for _ in range(2)]
            for order in chance.sample(strings_of(len(one), len(other)), 1) * 2:
                ran, first, second = race(tree, one, other, order)
                expected = outcome_of(model, one, other, order)
                self.assertEqual((list(ran.walk()), first, second), (expected[0], *expected[2:]), (seed, order))
                for real, known in expected[1].items():
                    if real.count("/") < 6:
                        self.assertEqual(ran.table_of(real or None), known)
                seen.update(first + second)
            self.assertTrue(tree.same(before))
        self.assertEqual(seen, {True, False})


class LeastApartTest(TreeCase):
    def check(self, tree, one, other, order):
        before, kept = tree.copy(), copy.deepcopy((one, other))
        self.assertEqual(least_apart(tree, one, other), order)
        self.assertTrue(tree.same(before))
        self.assertEqual((one, other), kept)

    def test_programs_that_do_not_meet(self):
        tree = example()
        self.check(tree, [], [], None)
        self.check(tree, [("remove", "l"), ("remove", "l")], [], None)
        self.check(tree, [], [("remove", "docs"), ("remove", "docs/old")], None)
        self.check(tree, [("file", "a", 1), ("file", "b", 1), ("remove", "a"), ("folder", "c")],
                   [("file", "x", 1), ("file", "docs/y", 1), ("remove", "x"), ("folder", "z")], None)
        self.check(tree, [("write", "readme", 5)], [("write", "README", 5)], None)

    def test_trees_that_differ(self):
        tree = example()
        self.check(tree, [("write", "readme", 5)], [("write", "readme", 6)], "10")
        self.check(tree, [("move", "docs", "DOCS")], [("move", "docs", "docs")], "10")
        self.check(tree, [("write", "readme", 5), ("write", "readme", 6)], [("write", "readme", 6)], None)
        self.check(tree, [("write", "readme", 5), ("write", "readme", 6)], [("write", "readme", 7)], "010")

    def test_lists_that_differ_while_the_trees_are_the_same(self):
        tree = Tree(low_table())
        self.check(tree, [("file", "a", 1)], [("file", "a", 1)], "10")
        self.check(tree, [("file", "a", 1), ("remove", "a")], [("remove", "a")], "010")
        self.check(example(), [("remove", "l")], [("remove", "L")], "10")

    def test_the_least_one(self):
        tree = Tree(low_table())
        # The second program needs all of the first one.
        one = [("folder", "a"), ("folder", "a/b"), ("folder", "a/b/c")]
        self.check(tree, one, [("file", "a/b/c/f", 1)], "0010")
        self.check(tree, one, [("file", "a/b/f", 1)], "0100")
        self.check(tree, one, [("file", "a/f", 1)], "1000")
        self.check(tree, one, [("file", "f", 1)], None)
        self.check(tree, one, [("file", "f", 1), ("file", "a/b/f", 1)], "01100")
        self.check(tree, one, [("file", "f", 1), ("file", "a/f", 1)], "11000")

    def test_spellings_that_are_kept(self):
        tree = Tree(low_table())
        self.check(tree, [("folder", "d"), ("file", "d/x", 1), ("remove", "d/x")],
                   [("file", "D/X", 2), ("remove", "d/x")], "00101")

    def test_against_all_orders(self):
        seen = {True: 0, False: 0}
        for seed in range(150):
            chance = random.Random(2000 + seed)
            table = chance.choice(TABLES)
            tree, model = Tree(table), Model(table)
            for _ in range(chance.randint(0, 5)):
                deed = deed_of(chance)
                self.assertIs(was_done(tree, deed), was_done(model, deed))
            one, other = [[deed_of(chance) for _ in range(chance.randint(1, 4))] for _ in range(2)]
            all_orders = strings_of(len(one), len(other))
            first = outcome_of(model, one, other, all_orders[0])
            apart = [order for order in all_orders if outcome_of(model, one, other, order) != first]
            self.check(tree, one, other, apart[0] if apart else None)
            if len(all_orders) > 1:
                seen[bool(apart)] += 1
        self.assertGreater(min(seen.values()), 20, seen)

    def test_four_deeds_each_in_a_large_tree(self):
        tree = Tree(low_table())
        for at in range(280):
            tree.file(f"f{at}", at)
        one = [("file", f"x{at}", at) for at in range(4)]
        self.check(tree, one, [("file", f"y{at}", at) for at in range(4)], None)
        self.check(tree, one, [("file", f"y{at}", at) for at in range(3)] + [("remove", "x0")], "11110000")
        self.check(tree, one, [("remove", "x3")] + [("file", f"y{at}", at) for at in range(3)], "00010111")

    def test_by_name_in_another_order(self):
        self.assertEqual(least_apart(other=[("remove", "l")], one=[("remove", "l")], tree=example()), "10")

    def test_errors_of_deeds_are_not_raised(self):
        deeds = [("remove", "x"), ("move", "docs", "docs/x"), ("write", "docs", 1), ("folder", "readme")]
        self.assertIsNone(error_of(least_apart, example(), deeds, deeds))
        self.assertIsNone(least_apart(example(), deeds, deeds))


if __name__ == "__main__":
    unittest.main()

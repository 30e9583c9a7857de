"""[3] and [11] to [15]: histories of all kinds, each beside a plainer tree that is gone through for each question."""

import itertools
import random
import unittest

from namesone.spellings import spellings
from namesone.tables import Table
from namesone.trees import Tree
from tests.model import Model
from tests.values import document_table, error_of, low_table, plain_table

NAMES = ["a", "A", "a'", "1", "b", "B", "':", ":'", "ab"]
TABLES = [low_table(), document_table(), plain_table(), Table({"b": "a"}, {"'": 1, ":": 1})]
QUESTIONS = ["kind", "real_path", "target", "read", "end", "table_of", "names"]


def path_of(chance):
    return "/".join(chance.choices(NAMES, k=chance.choice([1, 1, 1, 2, 2, 3])))


def deed_of(chance):
    name = chance.choice(["folder", "folder", "file", "link", "write", "remove", "move", "move"])
    rest = {"folder": [], "remove": [], "file": [chance.randint(0, 9)], "write": [chance.randint(0, 9)],
            "link": [path_of(chance)], "move": [path_of(chance)]}[name]
    return (name, path_of(chance), *rest)


def step_of(chance):
    """The name of a method and its arguments."""
    kind = chance.random()
    if kind < 0.75:
        return deed_of(chance)
    if kind < 0.85:
        return ("change", chance.choice([None, path_of(chance)]), chance.choice(TABLES))
    if kind < 0.92:
        return ("batch", [deed_of(chance) for _ in range(chance.randint(1, 3))])
    contents = [None, 1, 2]
    return ("lay", [(path_of(chance), chance.choice(contents)) for _ in range(chance.randint(1, 3))])


def answer(thing, step):
    """The error that a method raises, or None, and the list of what it returns."""
    name, *given = step
    results = []
    error = error_of(lambda: results.append(getattr(thing, name)(*given)))
    return (error, results)


class HistoryTest(unittest.TestCase):
    def check(self, tree, model, told):
        self.assertEqual(list(tree.walk()), model.rows(), told)
        self.assertEqual(len(tree), len(model.rows()), told)
        for real, table in model.folder_tables().items():
            if real.count("/") < 6:
                place = real or None
                self.assertEqual(tree.names(place), model.names(place), told)
                self.assertEqual(tree.table_of(place), table, told)
                keys = [table(name) for name in tree.names(place)]
                self.assertEqual(keys, sorted(set(keys)), told)

    def test_against_a_plainer_tree(self):
        seen = set()
        for seed in range(120):
            chance = random.Random(seed)
            table = chance.choice(TABLES)
            tree, model = Tree(table), Model(table)
            for at in range(60):
                step = step_of(chance)
                found = answer(tree, step)
                self.assertEqual(found, answer(model, step), (seed, at, step))
                seen.add((step[0], found[0][0] if found[0] else None))
                if found[0] is None:
                    self.check(tree, model, (seed, at, step))
                path = path_of(chance)
                self.assertEqual(path in tree, model.found(path) is not None, (seed, at, path))
                for name in QUESTIONS:
                    self.assertEqual(answer(tree, (name, path)), answer(model, (name, path)), (seed, at, name, path))
            self.check(tree, model, seed)
        # Each deed was done and refused in each of its ways.
        told = {(name, error.__name__ if error else "") for name, error in seen}
        expected = {
            "folder": ["", "Missing", "Present"], "file": ["", "Missing", "Present"],
            "link": ["", "Missing", "Present"], "write": ["", "Missing", "NoFile"], "remove": ["", "Missing"],
            "move": ["", "Missing", "Present", "Inside"], "change": ["", "Missing", "Barred"],
            "batch": ["", "NoDeed"], "lay": ["", "Clash"]}
        self.assertEqual(told, {(name, error) for name, errors in expected.items() for error in errors})

    def test_copies_go_their_own_ways(self):
        for seed in range(40):
            chance = random.Random(1000 + seed)
            tree = Tree(low_table())
            for _ in range(40):
                answer(tree, step_of(chance))
            kept = list(tree.walk())
            other = tree.copy()
            self.assertTrue(tree.same(other))
            steps = [step_of(chance) for _ in range(20)]
            first = [answer(other, step) for step in steps]
            self.assertEqual(list(tree.walk()), kept)
            self.assertEqual([answer(tree, step) for step in steps], first)
            self.assertTrue(tree.same(other))


class OtherSpellingsTest(unittest.TestCase):
    """A history whose paths are spelled in other ways does the same, except for the spellings that it keeps."""

    def respelled(self, chance, table, path):
        return "/".join([chance.choice(spellings(table, name, most=12)) for name in path.split("/")])

    def step_respelled(self, chance, table, step):
        paths = {"link": 2, "move": 2}.get(step[0], 1)
        return (step[0], *[self.respelled(chance, table, path) for path in step[1:1 + paths]], *step[1 + paths:])

    def facts(self, tree, table):
        """The rows of a tree with keys instead of names."""
        rows = []
        for real, kind, value in tree.walk():
            if kind == "link":
                value = [table(name) for name in value.split("/")]
            rows.append(([table(name) for name in real.split("/")], kind, value))
        return sorted(rows, key=repr)

    def test_paths_spelled_in_other_ways(self):
        for table, seed in itertools.product(TABLES, range(15)):
            chance = random.Random(seed)
            tree, other = Tree(table), Tree(table)
            for _ in range(40):
                step = deed_of(chance)
                errors = []
                for some, told in ((tree, step), (other, self.step_respelled(chance, table, step))):
                    found = answer(some, told)
                    errors.append(found[0] and found[0][0])
                self.assertEqual(*errors)
                self.assertEqual(self.facts(tree, table), self.facts(other, table))


if __name__ == "__main__":
    unittest.main()

"""[9], [6] and [13]: spellings counted and listed; names that are one in a list."""

import itertools
import math
import random
import unittest

from namesone.errors import TooMany
from namesone.exchanges import exchanges
from namesone.spellings import bar, count, groups, shortest, spellings
from namesone.tables import Table
from tests.values import SIGNS, document_table, low_table, place, signs_of, words_up_to

TEXTS = [
    "",
    "A=a",
    "1=a' A=a ':1 ::2",
    "A=aa B=a",
    "A=aba B=b",
    "A=: B=': ':1 ::2",
    "A=': B=:' ':2 ::1",
    "A=a B=a ':1 ::1",
    "A=a': ':1 ::2 a:3",
    "A=aa a:1 b:2 c:3",
]


class AllWordsTest(unittest.TestCase):
    def test_short_names_against_all_words_of_up_to_five_signs(self):
        for text in TEXTS:
            table = Table.from_text(text)
            signs = sorted({*signs_of(table), "a", "A"})
            by_key = {}
            for word in words_up_to(signs, 5):
                by_key.setdefault(table(word), []).append(word)
            for name in words_up_to(signs, 3):
                expected = by_key[table(name)]
                self.assertEqual(spellings(table, name, most=5), expected, (text, name))
                self.assertIn(name, expected)
                self.assertEqual(shortest(table, name), expected[0], (text, name))
                for size in range(6):
                    number = len([word for word in expected if len(word) == size])
                    self.assertEqual(count(table, name, size), number, (text, name, size))

    def test_smaller_bounds(self):
        table = document_table()
        for name in words_up_to("aA1':", 3):
            longest = spellings(table, name)
            for most in range(1, 8):
                expected = [word for word in longest if len(word) <= most]
                self.assertEqual(spellings(table, name, most=most), expected)


class CountTest(unittest.TestCase):
    def test_each_size_against_the_list(self):
        for text, names in (
                ("1=a' A=a ':1 ::2", ["b1:", "A1':", "':':", "xyz", "a'a'a'", "1111"]),
                ("A=aba B=b", ["ABABA", "abab", "AAAAA"]),
                ("A=^:' ':1 ::2 ^:3", ["A", "':^", "A'"]),
                ("", ["abcdefghijkl", "a"])):
            table = Table.from_text(text)
            for name in names:
                listed = spellings(table, name)
                self.assertIn(name, listed)
                for size in range(41):
                    number = len([word for word in listed if len(word) == size])
                    self.assertEqual(count(table, name, size), number, (text, name, size))

    def test_none_without_signs(self):
        self.assertEqual(count(document_table(), "A", 0), 0)
        self.assertEqual(count(Table({}, {}), "abc", 0), 0)

    def test_kind_of_value(self):
        for size in range(41):
            self.assertIs(type(count(document_table(), "A", size)), int)

    def test_longest_keys(self):
        table = Table({"A": "abc"}, {})
        for size in range(41):
            # So many A are written as three signs each.
            longer = (size - 12) // 2
            expected = math.comb(12, longer) if size >= 12 and size % 2 == 0 and longer <= 12 else 0
            self.assertEqual(count(table, "A" * 12, size), expected)

    def test_what_is_longer_than_a_word_is_no_spelling(self):
        table = Table({"A": "abc"}, {})
        self.assertEqual([count(table, "A" * 14, size) for size in (40, 41, 42)], [14, 0, 0])
        with self.assertRaises(TooMany):
            spellings(table, "A" * 14)
        self.assertEqual(shortest(table, "A" * 14), "A" * 14)

    def test_many_millions(self):
        table = Table({sign: "a" for sign in SIGNS[1:41]}, {})
        self.assertEqual(count(table, "a" * 12, 12), 41 ** 12)
        self.assertEqual(count(table, "b" * 12, 12), 41 ** 12)
        self.assertEqual(count(table, "a" * 12, 11), 0)
        self.assertEqual(count(table, "a" * 12, 13), 0)
        self.assertEqual(shortest(table, "bcdefghijklm"), "A" * 12)

    def test_many_millions_of_unlike_sizes(self):
        folds = {sign: "aa" for sign in "ABCDEFGHIJ"} | {sign: "a" for sign in "KLMNOPQRS"}
        table = Table(folds, {})
        for size in range(41):
            doubles = 12 - size
            expected = math.comb(size, doubles) * 10 ** size if 0 <= doubles <= size else 0
            self.assertEqual(count(table, "aaaaaaaaaaaa", size), expected)
        self.assertEqual(shortest(table, "KKKKKKKKKKKK"), "AAAAAA")
        self.assertEqual(shortest(table, "KKKKKKKKKKK"), "AAAAAK")

    def test_marks_in_all_orders(self):
        table = Table({}, {"'": 1, ":": 2, "^": 3, "-": 3})
        self.assertEqual(count(table, "''''::::^^-^", 12), math.comb(12, 4) * math.comb(8, 4))
        self.assertEqual(count(table, "':^a':^", 7), 36)
        self.assertEqual(count(table, "^-", 2), 1)
        self.assertEqual(shortest(table, "^:'-"), "':^-")

    def test_marks_that_folds_write(self):
        table = Table({"A": "^:'", "B": "':^", "C": ":"}, {"'": 1, ":": 2, "^": 3})
        self.assertEqual(count(table, "ABABABABABAB", 11), 0)
        self.assertEqual(count(table, "ABABABABABAB", 12), 2 ** 12)
        # Each : of the key may be written as C too.
        self.assertEqual(count(table, "ABABABABABAB", 36), math.comb(36, 12) * math.comb(24, 12) * 2 ** 12)
        self.assertEqual(shortest(table, "ABABABABABAB"), "A" * 12)


class ManySpellingsTest(unittest.TestCase):
    def table(self, more):
        """A table for which abc has 5 times 10 times 10 spellings, and some more."""
        folds = {sign: "a" for sign in "ABCD"}
        folds |= {sign: "b" for sign in "EFGHIJKLM"}
        folds |= {sign: "c" for sign in "NOPQRSTUV"}
        return Table({**folds, **more}, {})

    def test_exactly_500(self):
        found = spellings(self.table({}), "abc")
        self.assertEqual(len(found), 500)
        self.assertEqual(found, sorted(["".join(word) for word in itertools.product(
            "aABCD", "bEFGHIJKLM", "cNOPQRSTUV")]))

    def test_more_than_500(self):
        for more in ({"Z": "abc"}, {"Z": "a"}, {"Y": "ab", "Z": "bc"}):
            with self.assertRaises(TooMany) as caught:
                spellings(self.table(more), "abc")
            self.assertEqual(caught.exception.limit, 500)

    def test_a_smaller_bound(self):
        table = self.table({"Y": "ab", "Z": "abc"})
        with self.assertRaises(TooMany):
            spellings(table, "abc")
        with self.assertRaises(TooMany):
            spellings(table, "abc", most=3)
        self.assertEqual(spellings(table, "abc", most=1), ["Z"])
        self.assertEqual(spellings(table, "abc", most=2), ["Z"] + ["Y" + sign for sign in "NOPQRSTUVc"])

    def test_a_smaller_bound_beside_many_millions(self):
        folds = {sign: "a" for sign in SIGNS[10:40]}
        table = Table({**folds, "A": "aaa"}, {})
        self.assertEqual(spellings(table, "aaaaaaaaaaaa", most=4), ["AAAA"])
        with self.assertRaises(TooMany) as caught:
            spellings(table, "aaaaaaaaaaaa", most=6)
        self.assertEqual(caught.exception.limit, 500)
        self.assertEqual(spellings(table, "aaaaaaaaaaaa", most=3), [])

    def test_most_left_out_and_by_name_only(self):
        table = document_table()
        self.assertEqual(spellings(table, "A1"), spellings(table, "A1", most=40))
        self.assertEqual(spellings(most=2, name="A1", table=table), ["A1", "a1"])
        with self.assertRaises(TypeError):
            spellings(table, "A1", 2)

    def test_a_bound_below_the_shortest(self):
        self.assertEqual(spellings(low_table(), "abc", most=2), [])

    def test_new_lists(self):
        table = document_table()
        first = spellings(table, "A1")
        again = list(first)
        first.clear()
        self.assertEqual(spellings(table, "A1"), again)
        self.assertEqual(table, document_table())


def reached(table, name, most):
    """All words that single exchanges lead to, in the order of [4], or None if they are more than so many."""
    found, left = {name}, [name]
    while left and len(found) <= most:
        new = [word for word in exchanges(table, left.pop()) if word not in found]
        found.update(new)
        left.extend(new)
    return sorted(found, key=place) if len(found) <= most else None


class ExchangesTest(unittest.TestCase):
    """[3]: each word that is one with a name is among its spellings."""

    def test_all_that_single_exchanges_lead_to(self):
        many = 0
        for seed in range(150):
            chance = random.Random(seed)
            folds = {key: "".join(chance.choices("ab':^", k=chance.choice([1, 2, 3]))) for key in "AB1"}
            table = Table(folds, {sign: chance.randint(1, 3) for sign in "':^b" if chance.random() < 0.7})
            name = "".join(chance.choices("aAbB1':^", k=chance.randint(1, 7)))
            expected = reached(table, name, 500)
            if expected is None:
                with self.assertRaises(TooMany):
                    spellings(table, name)
                continue
            many += len(expected) > 20
            self.assertEqual(spellings(table, name), expected, (str(table), name))
            self.assertEqual(shortest(table, name), expected[0])
            sizes = [len(word) for word in expected]
            self.assertEqual([count(table, name, size) for size in range(41)], [sizes.count(size) for size in range(41)])
        self.assertGreater(many, 25)

    def test_long_names(self):
        found = spellings(Table({"A": "a"}, {}), "aaaaaaaa")
        self.assertEqual(found, ["".join(word) for word in itertools.product("Aa", repeat=8)])
        table = Table({"A": "a", "Z": "aa"}, {})
        found = spellings(table, "a" * 12, most=7)
        self.assertEqual(found, sorted([word for word in words_up_to("AZa", 7) if table(word) == "a" * 12], key=place))
        self.assertEqual(len(found), 85)
        self.assertEqual([count(table, "a" * 12, size) for size in (5, 6, 7, 12)], [0, 1, 84, 4096])


class GroupsTest(unittest.TestCase):
    NAMES = ["b1:", "ba':", "bA:'", "A", "a", "x", "1", "a'", "A'", "y'"]
    GROUPS = [["1", "A'", "a'"], ["A", "a"], ["x"], ["y'"], ["b1:", "bA:'", "ba':"]]

    def test_groups(self):
        self.assertEqual(groups(document_table(), self.NAMES), self.GROUPS)
        self.assertEqual(groups(document_table(), []), [])
        self.assertEqual(groups(document_table(), ["a"]), [["a"]])
        self.assertEqual(groups(Table({}, {}), ["b", "aa", "a", "A"]), [["A"], ["a"], ["b"], ["aa"]])

    def test_whatever_the_order_of_the_names(self):
        for names in itertools.permutations(["A'", "a'", "1", "A", "a", "x"]):
            self.assertEqual(groups(document_table(), list(names)), [["1", "A'", "a'"], ["A", "a"], ["x"]])
            self.assertEqual(bar(document_table(), list(names)), ("1", "A'"))
        for turn in range(len(self.NAMES)):
            self.assertEqual(groups(document_table(), self.NAMES[turn:] + self.NAMES[:turn]), self.GROUPS)

    def test_against_all_pairs(self):
        for text in TEXTS:
            table = Table.from_text(text)
            names = words_up_to("aA1':", 2)[::-1]
            found = groups(table, names)
            self.assertEqual(sorted(itertools.chain(*found)), sorted(names))
            self.assertEqual([[place(name) for name in alike] for alike in found],
                             sorted([sorted([place(name) for name in alike]) for alike in found]))
            together = {(one, other) for alike in found for one in alike for other in alike}
            for one, other in itertools.product(names, names):
                self.assertEqual((one, other) in together, table(one) == table(other))

    def test_sixty_names(self):
        names = [sign + end for sign in "abcdefghij" for end in ("", "x", "X", "xx", "Xx", "XX")]
        found = groups(low_table(), names)
        self.assertEqual(len(found), 30)
        self.assertEqual(found[10], ["aX", "ax"])
        self.assertEqual(found[20], ["aXX", "aXx", "axx"])

    def test_what_is_handed_over_stays_and_lists_are_new(self):
        names = list(self.NAMES)
        table = document_table()
        found = groups(table, names)
        bar(table, names)
        self.assertEqual(names, self.NAMES)
        found[0].clear()
        found.clear()
        self.assertEqual(groups(table, names), self.GROUPS)
        self.assertEqual(names, self.NAMES)


class BarTest(unittest.TestCase):
    def test_the_least_pair(self):
        table = low_table()
        for names, pair in (
                (["a", "A"], ("A", "a")),
                (["bb", "BB", "Bb", "c"], ("BB", "Bb")),
                (["aa", "AA", "b", "B"], ("B", "b")),
                (["aA", "aa", "Ba", "ba", "AA"], ("AA", "aA")),
                (["z", "xy", "Xy", "xY", "Z"], ("Z", "z"))):
            for some in itertools.permutations(names):
                self.assertEqual(bar(table, list(some)), pair)

    def test_a_shorter_name_comes_first(self):
        table = Table({"1": "ab", "Z": "z"}, {})
        self.assertEqual(bar(table, ["ab", "1"]), ("1", "ab"))
        self.assertEqual(bar(table, ["1c", "abc", "Z", "z"]), ("Z", "z"))

    def test_none(self):
        self.assertIsNone(bar(low_table(), []))
        self.assertIsNone(bar(low_table(), ["a"]))
        self.assertIsNone(bar(low_table(), ["a", "b", "aa", "Ab", "BA"]))
        self.assertIsNone(bar(Table({}, {}), ["a", "A", "aA"]))

    def test_against_all_pairs(self):
        names = ["x'", "1", "a", "':", "A'", ":'", "ba", "bA", "A"]
        for text in TEXTS:
            table = Table.from_text(text)
            for some in itertools.combinations(names, 5):
                pairs = [(u, v) for u in some for v in some if place(u) < place(v) and table(u) == table(v)]
                least = min(pairs, key=lambda pair: (place(pair[0]), place(pair[1])), default=None)
                self.assertEqual(bar(table, list(some)), least)


if __name__ == "__main__":
    unittest.main()

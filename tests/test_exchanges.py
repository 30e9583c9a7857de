"""[7] and [3]: single exchanges, and the ways that they make."""

import itertools
import unittest

from namesone.exchanges import exchanges, find_way
from namesone.tables import Table
from tests.values import document_table

TEXTS = [
    "",
    "A=a",
    "1=a' A=a ':1 ::2",
    "A=aa B=a",
    "A=aba ':1 ::2",
    "A=: B=': ':1 ::2",
    "A=': B=:' ':2 ::1",
    "A=a B=a ':1 ::1",
    "a:1 b:2 c:3",
]


def rules_of(table):
    """All pairs of strings of which a single exchange puts the second in the place of the first."""
    folds = list(table.folds.items())
    marks = list(table.marks.items())
    swaps = [(a + b, b + a) for a, low in marks for b, high in marks if low != high]
    return folds + [(word, sign) for sign, word in folds] + swaps


def is_exchange(table, before, after):
    """Whether a string comes from another one by a single exchange, asked without the program."""
    for old, new in rules_of(table):
        for at in range(len(before) - len(old) + 1):
            head, tail = before[:at], before[at + len(old):]
            if head + old + tail == before and head + new + tail == after:
                return True
    return False


def words_of(signs, size):
    return ["".join(word) for word in itertools.product(signs, repeat=size)]


class ExchangesTest(unittest.TestCase):
    def test_by_a_fold(self):
        table = Table({"A": "a", "B": "xyz"}, {})
        self.assertEqual(exchanges(table, "A"), ["a"])
        self.assertEqual(exchanges(table, "bAb"), ["bab"])
        self.assertEqual(exchanges(table, "BcB"), ["Bcxyz", "xyzcB"])
        self.assertEqual(exchanges(table, "AA"), ["Aa", "aA"])

    def test_by_a_fold_taken_back(self):
        table = Table({"A": "a", "B": "xyz"}, {})
        self.assertEqual(exchanges(table, "a"), ["A"])
        self.assertEqual(exchanges(table, "xyz"), ["B"])
        self.assertEqual(exchanges(table, "xyzbxyz"), ["Bbxyz", "xyzbB"])
        self.assertEqual(exchanges(table, "xy"), [])

    def test_by_a_fold_taken_back_where_occurrences_overlap(self):
        self.assertEqual(exchanges(Table({"A": "aa"}, {}), "aaab"), ["Aab", "aAb"])
        self.assertEqual(exchanges(Table({"A": "aba"}, {}), "ababa"), ["Aba", "abA"])
        self.assertEqual(exchanges(Table({"A": "aaa"}, {}), "aaaab"), ["Aab", "aAb"])

    def test_by_several_folds_with_one_word(self):
        table = Table({"A": "a", "B": "a", "C": "aa"}, {})
        self.assertEqual(exchanges(table, "aa"), ["Aa", "Ba", "C", "aA", "aB"])

    def test_by_two_marks(self):
        table = Table({}, {"'": 1, ":": 2, "^": 2})
        self.assertEqual(exchanges(table, "':"), [":'"])
        self.assertEqual(exchanges(table, ":'"), ["':"])
        self.assertEqual(exchanges(table, ":^"), [])
        self.assertEqual(exchanges(table, "''"), [])
        self.assertEqual(exchanges(table, "'a:"), [])
        self.assertEqual(exchanges(table, "a'"), [])
        self.assertEqual(exchanges(table, "':^a^'"), ["':^a'^", ":'^a^'"])
        self.assertEqual(exchanges(table, "a':b"), ["a:'b"])

    def test_by_all_of_them(self):
        table = document_table()
        self.assertEqual(exchanges(table, "b1:"), ["ba':"])
        self.assertEqual(exchanges(table, "ba':"), ["b1:", "bA':", "ba:'"])
        self.assertEqual(exchanges(table, "bA:'"), ["bA':", "ba:'"])

    def test_a_key_that_is_no_mark_does_not_change_places(self):
        table = Table({"A": "'", "B": ":"}, {"'": 1, ":": 2})
        self.assertEqual(exchanges(table, "AB"), ["'B", "A:"])

    def test_none(self):
        self.assertEqual(exchanges(Table({}, {}), "abc"), [])
        self.assertEqual(exchanges(document_table(), "xyz"), [])

    def test_ascending_without_duplicates(self):
        table = Table({"A": "aa"}, {})
        self.assertEqual(exchanges(table, "aaa"), ["Aa", "aA"])
        table = Table({"A": "a"}, {})
        self.assertEqual(exchanges(table, "aAa"), ["AAa", "aAA", "aaa"])
        table = Table({}, {"a": 1, "b": 2})
        self.assertEqual(exchanges(table, "abab"), ["aabb", "abba", "baab"])

    def test_ascending_without_duplicates_for_all_short_words(self):
        for text in TEXTS + ["A=aa B=a C=a a:1 b:2", "A=ab B=ba C=aba a:1 b:2"]:
            table = Table.from_text(text)
            for size in range(1, 5):
                for word in words_of("abAB", size):
                    found = exchanges(table, word)
                    self.assertEqual(found, sorted(set(found)))

    def test_folds_and_marks_beside_each_other(self):
        table = Table({"A": "':", "B": ":'"}, {"'": 1, ":": 2})
        self.assertEqual(exchanges(table, "':'"), ["'':", "'B", ":''", "A'"])

    def test_strings_of_more_than_forty_signs(self):
        table = Table({"A": "abc"}, {"'": 1, ":": 2})
        self.assertEqual(exchanges(table, "x" * 39 + "A"), ["x" * 39 + "abc"])
        self.assertEqual(exchanges(table, "x" * 39 + "abc"), ["x" * 39 + "A"])
        self.assertEqual(exchanges(table, "x" * 100 + "':"), ["x" * 100 + ":'"])
        self.assertEqual(len(exchanges(table, "A" * 100)), 100)

    def test_a_new_list_each_time(self):
        table = document_table()
        first = exchanges(table, "ba':")
        first.clear()
        self.assertEqual(exchanges(table, "ba':"), ["b1:", "bA':", "ba:'"])
        self.assertIsNot(exchanges(table, "ba':"), exchanges(table, "ba':"))
        self.assertIsInstance(exchanges(table, "x"), list)

    def test_the_table_stays(self):
        table = document_table()
        exchanges(table, "ba':")
        find_way(table, "b1:", "bA:'")
        self.assertEqual(table, document_table())

    def test_just_what_the_rules_say(self):
        for text in TEXTS:
            table = Table.from_text(text)
            signs = sorted(set("A" + "".join(table.folds) + "".join(table.folds.values()) + "".join(table.marks)))
            near = [word for size in range(5) for word in words_of(signs, size)]
            for word in words_of(signs, 1) + words_of(signs, 2):
                expected = sorted([other for other in near if is_exchange(table, word, other)])
                found = [other for other in exchanges(table, word) if other in near]
                self.assertEqual(found, expected, (text, word))
                for other in exchanges(table, word):
                    self.assertTrue(is_exchange(table, word, other), (text, word, other))

    def test_every_exchange_goes_back(self):
        for text in TEXTS:
            table = Table.from_text(text)
            for word in words_of("aA1':", 3):
                for other in exchanges(table, word):
                    self.assertIn(word, exchanges(table, other))


class WaysTest(unittest.TestCase):
    def check(self, table, one, other):
        way = find_way(table, one, other)
        if table(one) != table(other):
            self.assertIsNone(way, (str(table), one, other))
            return
        self.assertIsInstance(way, list)
        self.assertEqual((way[0], way[-1]), (one, other))
        for before, after in zip(way, way[1:]):
            self.assertTrue(is_exchange(table, before, after), (before, after))
            self.assertIn(after, exchanges(table, before))
        self.assertEqual(len(way), len(set(way)))

    def test_the_example_of_the_document(self):
        self.check(document_table(), "b1:", "bA:'")
        self.check(document_table(), "bA:'", "b1:")

    def test_a_name_and_itself(self):
        for name in ("a", "A", "b1:", ":'", "A" * 12):
            self.assertEqual(find_way(document_table(), name, name), [name])
            self.assertEqual(find_way(Table({}, {}), name, name), [name])

    def test_names_that_are_not_one(self):
        table = document_table()
        for one, other in (("a", "b"), ("A", "A'"), ("b1:", "b"), ("1", "'a"), ("x", "X"), ("':", "'::")):
            self.assertIsNone(find_way(table, one, other))
            self.assertIsNone(find_way(table, other, one))

    def test_marks_of_one_class_do_not_pass_each_other(self):
        table = Table({}, {"'": 1, ":": 1, "^": 2})
        self.assertIsNone(find_way(table, "':", ":'"))
        self.assertIsNone(find_way(table, "'^:", ":^'"))
        self.check(table, "'^:", "':^")

    def test_all_short_names(self):
        for text in TEXTS:
            table = Table.from_text(text)
            names = words_of("aA1':", 1) + words_of("aA1':", 2)
            for one, other in itertools.product(names, names):
                self.check(table, one, other)

    def test_marks_in_all_orders(self):
        table = Table({}, {"'": 1, ":": 2, "^": 3, "-": 3})
        for word in itertools.permutations("':^-"):
            self.check(table, "".join(word), "':^-")

    def test_longest_names(self):
        table = Table({"A": "^:'", "B": "':^", "C": "c"}, {"'": 1, ":": 2, "^": 3})
        self.check(table, "A" * 12, "B" * 12)
        self.check(table, "AB" * 6, "B" * 6 + "A" * 6)
        self.check(table, "cCcCcCcCcCcC", "CcCcCcCcCcCc")
        self.check(table, "^" * 6 + "'" * 6, "'" * 6 + "^" * 6)
        self.assertGreater(max([len(text) for text in find_way(table, "A" * 12, "B" * 12)]), 12)

    def test_equal_calls_give_equal_new_lists(self):
        table = document_table()
        first = find_way(table, "b1:", "bA:'")
        again = find_way(Table({"1": "a'", "A": "a"}, {":": 2, "'": 1}), "b1:", "bA:'")
        self.assertEqual(first, again)
        first.clear()
        self.assertEqual(find_way(table, "b1:", "bA:'"), again)


class PromiseTest(unittest.TestCase):
    def test_words_are_one_if_and_only_if_exchanges_lead_from_one_to_the_other(self):
        # A key of three signs has at most six here, so shorter strings are enough to lead there.
        for text in ("1=a' A=a ':1 ::2", "1=:a A=:' ':1 ::2", "1=a A=aa ':1 ::1"):
            table = Table.from_text(text)
            keys = {}
            for word in [word for size in (1, 2, 3) for word in words_of("aA1':", size)]:
                keys.setdefault(table(word), []).append(word)
            for words in keys.values():
                reached = self.reached_from(table, words[0], 6)
                short = sorted([word for word in reached if len(word) <= 3])
                self.assertEqual(short, sorted(words))

    def reached_from(self, table, word, most):
        reached = {word}
        waiting = [word]
        while waiting:
            for after in exchanges(table, waiting.pop()):
                if len(after) <= most and after not in reached:
                    reached.add(after)
                    waiting.append(after)
        return reached


if __name__ == "__main__":
    unittest.main()

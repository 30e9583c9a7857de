"""[6]: the keys of words."""

import itertools
import unittest

from namesone.errors import NoWord
from namesone.tables import Table
from tests.values import document_table, no_strings


class KeysTest(unittest.TestCase):
    def test_the_example_of_the_document(self):
        table = document_table()
        self.assertEqual(table("b1:"), "ba':")
        self.assertEqual(table("bA:'"), "ba':")
        self.assertEqual(table("ba':"), "ba':")

    def test_the_table_without_folds_and_marks(self):
        table = Table({}, {})
        for word in ("a", "A", "'-.:^_~", "z" * 40, "Ba9:'"):
            self.assertEqual(table(word), word)

    def test_each_sign_is_replaced_once(self):
        table = Table({"A": "a", "B": "xyz", "C": "aa"}, {})
        self.assertEqual(table("A"), "a")
        self.assertEqual(table("ABCabc"), "axyzaaabc")
        self.assertEqual(table("CAB"), "aaaxyz")
        self.assertEqual(table("aBBa"), "axyzxyza")

    def test_runs_of_marks(self):
        table = Table({}, {"'": 1, ":": 2, "^": 3})
        self.assertEqual(table("^:'"), "':^")
        self.assertEqual(table("a^:'b:'c"), "a':^b':c")
        self.assertEqual(table(":a'"), ":a'")
        self.assertEqual(table("^'^':"), "'':^^")
        self.assertEqual(table("^a"), "^a")
        self.assertEqual(table("a^'"), "a'^")
        self.assertEqual(table("^'a"), "'^a")

    def test_a_sign_that_is_no_mark_ends_a_run(self):
        table = Table({}, {"'": 1, ":": 2})
        for sign in "aZ0-.^_~":
            self.assertEqual(table(":" + sign + "'"), ":" + sign + "'")
            self.assertEqual(table(":'" + sign + ":'"), "':" + sign + "':")

    def test_marks_of_one_class_stay_in_their_order(self):
        table = Table({}, {"'": 2, ":": 2, "^": 2, "a": 1, "z": 3})
        for order in itertools.permutations("':^"):
            word = "".join(order)
            self.assertEqual(table(word), word)
            self.assertEqual(table("z" + word), word + "z")
            self.assertEqual(table(word + "a"), "a" + word)
        self.assertEqual(table("z:a'a:"), "aa:':z")

    def test_the_class_tells_and_not_the_sign(self):
        table = Table({}, {"'": 3, "~": 1, "m": 2})
        self.assertEqual(table("'m~"), "~m'")
        self.assertEqual(table("m'~'m"), "~mm''")

    def test_marks_in_the_words_of_the_folds(self):
        table = Table({"1": "a'", "2": ":'", "3": "^", "4": "':a"}, {"'": 1, ":": 2, "^": 3})
        self.assertEqual(table("1"), "a'")
        self.assertEqual(table("2"), "':")
        self.assertEqual(table("32'"), "'':^")
        self.assertEqual(table("1:3'"), "a'':^")
        self.assertEqual(table("^4"), "':^a")
        self.assertEqual(table("4^:1"), "':a:^a'")
        self.assertEqual(table("33:"), ":^^")

    def test_a_fold_parts_a_run_or_joins_two(self):
        table = Table({"A": "'", "B": "b"}, {"'": 1, ":": 2})
        self.assertEqual(table(":A:"), "'::")
        self.assertEqual(table(":B'"), ":b'")

    def test_signs_that_are_letters_may_be_marks(self):
        table = Table({"X": "ba"}, {"a": 1, "b": 2})
        self.assertEqual(table("X"), "ab")
        self.assertEqual(table("cbXac"), "caabbc")

    def test_longest_words(self):
        table = Table({"A": "^:'"}, {"'": 1, ":": 2, "^": 3})
        self.assertEqual(table("A" * 40), "'" * 40 + ":" * 40 + "^" * 40)
        self.assertEqual(table("z" * 40), "z" * 40)
        self.assertEqual(table("^" * 39 + "'"), "'" + "^" * 39)

    def test_keys_do_not_depend_on_the_order_of_the_dicts(self):
        one = Table({"A": "b'", "B": ":c"}, {"'": 1, ":": 2})
        other = Table({"B": ":c", "A": "b'"}, {":": 2, "'": 1})
        for word in ("AB", "BA", ":A'B'", "A:'"):
            self.assertEqual(one(word), other(word))

    def test_a_key_of_a_key_is_the_key(self):
        table = document_table()
        for size in range(1, 5):
            for signs in itertools.product("Aa1':", repeat=size):
                key = table("".join(signs))
                self.assertEqual(table(key), key)


class NoWordTest(unittest.TestCase):
    def refuses(self, thing):
        with self.assertRaises(NoWord) as caught:
            document_table()(thing)
        self.assertIs(caught.exception.word, thing)

    def test_what_is_no_string(self):
        for thing in no_strings():
            self.refuses(thing)

    def test_strings_that_are_no_words(self):
        for thing in ["", "a" * 41, "a" * 4000, " ", "a b", "a=b", "a/b", "a\n", "\u00e9", "a*"]:
            self.refuses(thing)


if __name__ == "__main__":
    unittest.main()

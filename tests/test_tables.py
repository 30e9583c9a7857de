"""[5] and [2]: tables, what they refuse, and that they share nothing."""

import itertools
import unittest

from namesone.errors import NoFold, NoMark, NoSign, TooMany
from namesone.tables import Table
from tests.values import SIGNS, document_table, no_strings

LOW = "abcdefghijklmnopqrstuvwxyz"


def in_all_orders(pairs):
    return [dict(order) for order in itertools.permutations(pairs)]


class TableCase(unittest.TestCase):
    def refuses(self, error, value, folds, marks):
        """The error is due, whatever the order of the keys."""
        for some_folds in in_all_orders(list(folds.items())):
            for some_marks in in_all_orders(list(marks.items())):
                with self.assertRaises(error) as caught:
                    Table(some_folds, some_marks)
                self.assertIs(caught.exception.__class__, error)
                field = {TooMany: "limit"}.get(error, "sign")
                self.assertEqual(getattr(caught.exception, field), value)


class FoldErrorsTest(TableCase):
    def test_keys_that_are_no_signs(self):
        for key in ["", "ab", "A ", " ", "=", "/", "\u00e9", "a" * 4000]:
            self.refuses(NoSign, key, {key: "a"}, {})
            self.refuses(NoSign, key, {key: 5}, {})

    def test_values_that_are_no_words(self):
        for value in ["", "abcd", "a" * 40, "a b", " a", "a ", "=", "a/b", "\u00e9", *no_strings()]:
            self.refuses(NoFold, "X", {"X": value}, {})

    def test_words_of_one_to_three_signs(self):
        for value in ("a", "ab", "abc", "'", "''", "~:^", "aaa"):
            self.assertEqual(Table({"X": value}, {}).folds, {"X": value})

    def test_words_with_a_key_of_the_folds(self):
        self.refuses(NoFold, "A", {"A": "A"}, {})
        self.refuses(NoFold, "A", {"A": "bAc"}, {})
        self.refuses(NoFold, "A", {"A": "B", "B": "c"}, {})
        self.refuses(NoFold, "B", {"A": "c", "B": "xyA"}, {})
        self.refuses(NoFold, "A", {"A": "B", "B": "A"}, {})
        self.refuses(NoFold, "a", {"a": "xzy", "z": "b"}, {})

    def test_a_key_counts_even_if_its_own_value_is_wrong(self):
        self.refuses(NoFold, "A", {"A": "B", "B": 5}, {})

    def test_several_fold_errors(self):
        self.refuses(NoFold, "A", {"A": "", "B": 7, "C": "c"}, {})
        self.refuses(NoSign, "", {"": "a", "A": "", "B": "B"}, {})
        self.refuses(NoSign, "=", {"=": "a", "A": "", "a": None}, {})
        self.refuses(NoFold, "A", {"A": "", "AB": "c", "Z": "z"}, {})
        self.refuses(NoSign, "AB", {"A": "c", "AB": "c", "B": ""}, {})
        self.refuses(NoFold, "9", {"9": None, "A": "", "a": "A"}, {})


class MarkErrorsTest(TableCase):
    def test_keys_that_are_no_signs(self):
        for key in ["", "ab", "' ", " ", "=", "/", "\u00e9"]:
            self.refuses(NoSign, key, {}, {key: 1})
            self.refuses(NoSign, key, {"A": "a"}, {key: "x"})

    def test_values_that_are_no_classes(self):
        values = [0, 4, -1, 10, True, False, "1", "", None, [1], (1,), {1: 1}, 10 ** 40 - 1]
        for value in values:
            self.refuses(NoMark, "'", {}, {"'": value})

    def test_the_classes(self):
        for level in (1, 2, 3):
            self.assertEqual(Table({}, {"'": level}).marks, {"'": level})

    def test_marks_that_are_keys_of_the_folds(self):
        self.refuses(NoMark, "A", {"A": "a"}, {"A": 1})
        self.refuses(NoMark, "A", {"A": "a", "B": "b"}, {"'": 1, "A": 2, "B": 3})

    def test_marks_may_stand_in_the_words_of_the_folds(self):
        table = Table({"1": "a'", "2": "'"}, {"'": 1, "a": 2})
        self.assertEqual(table.marks, {"'": 1, "a": 2})

    def test_several_mark_errors(self):
        self.refuses(NoMark, "'", {"A": "a"}, {"'": 0, "A": 1, "B": 4})
        self.refuses(NoMark, "A", {"A": "a"}, {"'": 3, "A": 1, "ab": 1})
        self.refuses(NoSign, "", {"A": "a"}, {"": 0, "'": 0, "A": 1})
        self.refuses(NoSign, "'a", {"A": "a"}, {"'": 1, "'a": 1, "A": 1})

    def test_folds_before_marks(self):
        self.refuses(NoFold, "z", {"z": "zz"}, {"": 0, "'": 9})
        self.refuses(NoSign, "zz", {"zz": "a"}, {"": 0, "'": 9})
        self.refuses(NoFold, "A", {"A": "'A"}, {"A": 1})


class SizesTest(TableCase):
    def test_forty_folds(self):
        table = Table({sign: "~" for sign in SIGNS[:40]}, {})
        self.assertEqual(len(table.folds), 40)

    def test_forty_one_folds(self):
        for more in (41, 42, 68):
            with self.assertRaises(TooMany) as caught:
                Table({sign: "~" for sign in SIGNS[:more]}, {})
            self.assertEqual(caught.exception.limit, 40)

    def test_eight_marks(self):
        self.assertEqual(len(Table({}, {sign: 1 for sign in SIGNS[:8]}).marks), 8)

    def test_nine_marks(self):
        for more in (9, 10, 69):
            with self.assertRaises(TooMany) as caught:
                Table({}, {sign: 3 for sign in SIGNS[:more]})
            self.assertEqual(caught.exception.limit, 8)

    def test_the_most_of_both(self):
        table = Table({sign: "~" for sign in SIGNS[:40]}, {sign: 2 for sign in SIGNS[40:48]})
        self.assertEqual(len(table), 48)

    def test_too_many_folds_before_too_many_marks(self):
        folds = {sign: "~" for sign in SIGNS[:41]}
        with self.assertRaises(TooMany) as caught:
            Table(folds, {sign: 1 for sign in SIGNS[41:50]})
        self.assertEqual(caught.exception.limit, 40)

    def test_other_errors_before_sizes(self):
        folds = {sign: "~" for sign in SIGNS[:41]}
        marks = {sign: 1 for sign in SIGNS[41:50]}
        with self.assertRaises(NoMark) as caught:
            Table(folds, {**marks, SIGNS[50]: 0})
        self.assertEqual(caught.exception.sign, SIGNS[50])
        with self.assertRaises(NoMark):
            Table(folds, {"a": 1})
        with self.assertRaises(NoSign):
            Table(folds, {"": 1})
        with self.assertRaises(NoFold):
            Table({**folds, "Z": ""}, marks)
        with self.assertRaises(NoSign):
            Table({**folds, "zz": "~"}, marks)


class CopiesTest(unittest.TestCase):
    def test_the_dicts_handed_in_stay(self):
        folds = {"B": "b", "A": "a"}
        marks = {":": 2, "'": 1}
        table = Table(folds, marks)
        table("AB:'")
        self.assertEqual(list(folds.items()), [("B", "b"), ("A", "a")])
        self.assertEqual(list(marks.items()), [(":", 2), ("'", 1)])

    def test_the_dicts_handed_in_stay_after_an_error(self):
        folds = {"B": "b", "A": 5}
        marks = {":": 2, "'": 9}
        with self.assertRaises(NoFold):
            Table(folds, marks)
        self.assertEqual(list(folds.items()), [("B", "b"), ("A", 5)])
        self.assertEqual(list(marks.items()), [(":", 2), ("'", 9)])

    def test_changes_of_the_dicts_handed_in(self):
        folds = {"A": "a"}
        marks = {"'": 1, ":": 2}
        table = Table(folds, marks)
        folds["B"] = "b"
        folds["A"] = "x"
        marks.clear()
        self.assertEqual(table.folds, {"A": "a"})
        self.assertEqual(table.marks, {"'": 1, ":": 2})
        self.assertEqual(table("AB:'"), "aB':")

    def test_dicts_handed_out_are_new_ones(self):
        table = document_table()
        self.assertIsNot(table.folds, table.folds)
        self.assertIsNot(table.marks, table.marks)
        table.folds["B"] = "b"
        table.folds.clear()
        table.marks["'"] = 3
        self.assertEqual(table.folds, {"A": "a", "1": "a'"})
        self.assertEqual(table.marks, {"'": 1, ":": 2})
        self.assertEqual(table("bA:'"), "ba':")
        self.assertEqual(table, document_table())

    def test_two_tables_share_nothing(self):
        folds = {"A": "a"}
        one = Table(folds, {})
        other = Table(one.folds, one.marks)
        one.folds["B"] = "b"
        folds["B"] = "b"
        self.assertEqual(one.folds, {"A": "a"})
        self.assertEqual(other.folds, {"A": "a"})


class EqualTest(unittest.TestCase):
    def test_keys_in_another_order(self):
        one = Table({"A": "a", "B": "b"}, {"'": 1, ":": 2})
        other = Table({"B": "b", "A": "a"}, {":": 2, "'": 1})
        self.assertIs(one == other, True)
        self.assertIs(one != other, False)
        self.assertIs(one == one, True)
        self.assertIs(Table({}, {}) == Table({}, {}), True)

    def test_tables_that_differ(self):
        tables = [
            Table({}, {}), Table({"A": "a"}, {}), Table({"A": "b"}, {}), Table({"B": "a"}, {}),
            Table({"A": "a", "B": "a"}, {}), Table({}, {"A": 1}), Table({}, {"A": 2}),
            Table({}, {"A": 1, "B": 1}), Table({"A": "a"}, {"'": 1}), Table({"A": "a"}, {"'": 3}),
        ]
        for one, other in itertools.permutations(tables, 2):
            self.assertIs(one == other, False, (str(one), str(other)))
            self.assertIs(one != other, True)

    def test_values_that_are_no_tables(self):
        table = document_table()
        others = [None, 0, 1, True, "", str(table), repr(table), [], {}, (), table.folds,
                  [table.folds, table.marks], (table.folds, table.marks), object(), Table]
        for other in others:
            self.assertIs(table == other, False)
            self.assertIs(other == table, False)
            self.assertIs(table != other, True)
            self.assertIs(Table({}, {}) == other, False)


class ShownTest(unittest.TestCase):
    def test_len(self):
        self.assertEqual(len(Table({}, {})), 0)
        self.assertEqual(len(Table({"A": "a"}, {})), 1)
        self.assertEqual(len(Table({}, {"A": 1})), 1)
        self.assertEqual(len(document_table()), 4)
        self.assertEqual(len(Table({"A": "abc", "B": "b", "C": "c"}, {"a": 1})), 4)

    def test_repr(self):
        self.assertEqual(repr(Table({}, {})), "Table(00 folds, 0 marks)")
        self.assertEqual(repr(document_table()), "Table(02 folds, 2 marks)")
        three = Table({"A": "a", "B": "b", "C": "c"}, {"'": 1, ":": 2})
        self.assertEqual(repr(three), "Table(03 folds, 2 marks)")
        one = Table({"A": "a"}, {"'": 3})
        self.assertEqual(repr(one), "Table(01 folds, 1 marks)")
        most = Table({sign: "~" for sign in SIGNS[:40]}, {sign: 2 for sign in SIGNS[40:48]})
        self.assertEqual(repr(most), "Table(40 folds, 8 marks)")
        twelve = Table({sign: "~" for sign in LOW[:12]}, {})
        self.assertEqual(repr(twelve), "Table(12 folds, 0 marks)")


if __name__ == "__main__":
    unittest.main()

"""[18]: written tables."""

import itertools
import unittest

from namesone.errors import NoFold, NoMark, NoText, TooMany
from namesone.tables import Table
from tests.values import SIGNS, document_table, no_strings

PAIRS = [
    ("", {}, {}),
    ("A=a", {"A": "a"}, {}),
    ("A=abc", {"A": "abc"}, {}),
    ("':1", {}, {"'": 1}),
    ("1=a' A=a ':1 ::2", {"A": "a", "1": "a'"}, {"'": 1, ":": 2}),
    (":=a", {":": "a"}, {}),
    ("::3", {}, {":": 3}),
    ("-=a .=a :=a", {":": "a", "-": "a", ".": "a"}, {}),
    ("-=.: A=_~ .:1 ::3 ~:2", {"A": "_~", "-": ".:"}, {"~": 2, ":": 3, ".": 1}),
    ("9=123", {"9": "123"}, {}),
    ("Z=1 a=2 1:1 2:2", {"a": "2", "Z": "1"}, {"2": 2, "1": 1}),
]


class ThereAndBackTest(unittest.TestCase):
    def test_tables_to_texts(self):
        for text, folds, marks in PAIRS:
            self.assertEqual(str(Table(folds, marks)), text)

    def test_texts_to_tables(self):
        for text, folds, marks in PAIRS:
            table = Table.from_text(text)
            self.assertIsInstance(table, Table)
            self.assertEqual(table, Table(folds, marks))
            self.assertEqual(table.folds, folds)
            self.assertEqual(table.marks, marks)
            self.assertEqual(str(table), text)

    def test_the_order_of_the_dicts_is_not_told(self):
        folds = [("A", "a"), ("z", "y"), ("1", "'"), ("-", "abc")]
        marks = [("'", 3), (":", 1), ("~", 2)]
        for some in itertools.permutations(folds):
            for more in itertools.permutations(marks):
                self.assertEqual(str(Table(dict(some), dict(more))), "-=abc 1=' A=a z=y ':3 ::1 ~:2")

    def test_every_sign(self):
        for sign in SIGNS:
            other = "a" if sign != "a" else "b"
            for text in (f"{sign}={other}", f"{other}={sign * 3}", f"{sign}:2"):
                self.assertEqual(str(Table.from_text(text)), text)

    def test_the_longest_text(self):
        ordered = sorted(SIGNS)
        text = " ".join([f"{sign}=~~~" for sign in ordered[:40]] + [f"{sign}:3" for sign in ordered[40:48]])
        self.assertEqual(str(Table.from_text(text)), text)

    def test_a_key_after_there_and_back(self):
        table = Table.from_text(str(document_table()))
        self.assertEqual(table("bA:'"), "ba':")
        table.folds["B"] = "b"
        self.assertEqual(str(table), "1=a' A=a ':1 ::2")


class NoTextTest(unittest.TestCase):
    def refuses(self, text, index):
        with self.assertRaises(NoText) as caught:
            Table.from_text(text)
        self.assertEqual(caught.exception.index, index, ascii(text))

    def test_what_is_no_string(self):
        for thing in no_strings():
            self.refuses(thing, -1)

    def test_empty_items(self):
        self.refuses(" ", 0)
        self.refuses("  ", 0)
        self.refuses(" A=a", 0)
        self.refuses("A=a ", 1)
        self.refuses("A=a  B=b", 1)
        self.refuses("A=a B=b  ':1", 2)
        self.refuses("A=a B=b ':1 ", 3)
        self.refuses("A=a B=b ':1  ::2", 3)
        self.refuses(" " * 4000, 0)

    def test_an_item_twice(self):
        self.refuses("A=a A=a", 1)
        self.refuses("A=a A=b", 1)
        self.refuses("A=a ':1 ':1", 2)
        self.refuses("':1 ':2", 1)

    def test_out_of_order(self):
        self.refuses("B=b A=a", 1)
        self.refuses("A=a C=c B=b D=d", 2)
        self.refuses("a=1 Z=2", 1)
        self.refuses("::1 ':2", 1)
        self.refuses("A=a B=b ~:1 ':2", 3)
        self.refuses("A=a C=c B=b A=a", 2)

    def test_a_mark_before_a_fold(self):
        self.refuses("':1 A=a", 1)
        self.refuses("A=a ':1 B=b", 2)
        self.refuses("A=a ':1 ::2 B=b", 3)

    def test_a_sign_may_be_lower_as_mark_than_the_last_fold(self):
        self.assertEqual(Table.from_text("z=y ':1").marks, {"'": 1})

    def test_wrong_items(self):
        wrong = [
            "A", "=", ":", "A=", "A:", "=a", ":1", "A=abcd", "AB=a", "A==a", "A=a=", "==a", "A=a,",
            "A:0", "A:4", "A:11", "A:01", "A:+1", "A:-1", "A:a", "A:1:", "A::1", "A1", "Aa", "AB:1",
            "A-a", "A = a", "A=\u00e9", "\u00e9=a", "A:\u0661", "A:\u00b9", "A=a\n", "A=a\t", "\tA=a",
            "A=a\nB=b", "A=a\tB=b", "A=a/", "A=*", "=:1", "A;1", "ok", "A\u00a0",
        ]
        for item in wrong:
            self.refuses(item, 0)
            self.refuses("-=x " + item, 1)
            self.refuses(item + " Z=z", 0)
            self.refuses("'=x -=x " + item + " z=y", 2)

    def test_the_first_of_several(self):
        self.refuses("A=a B C=", 1)
        self.refuses("B=b A=a C", 1)
        self.refuses("C B=b A=a", 0)
        self.refuses("A=a  B", 1)
        self.refuses("A=a A=b  ", 1)

    def test_the_form_is_asked_before_the_table(self):
        self.refuses("A=A ", 1)
        self.refuses("A=B B=c C", 2)
        self.refuses("A=a A:1 ^:1 ':1", 3)
        self.refuses(" ".join([f"{sign}=~" for sign in sorted(SIGNS)[:41]]) + " ", 41)


class ErrorsOfTheTableTest(unittest.TestCase):
    def test_no_fold(self):
        for text, sign in (("A=A", "A"), ("A=B B=c", "A"), ("A=a B=cAc", "B"), (":=::", ":"), ("A=A A:1", "A")):
            with self.assertRaises(NoFold) as caught:
                Table.from_text(text)
            self.assertEqual(caught.exception.sign, sign)

    def test_no_mark(self):
        for text, sign in (("A=a A:1", "A"), ("A=a B=b ':1 B:2", "B")):
            with self.assertRaises(NoMark) as caught:
                Table.from_text(text)
            self.assertEqual(caught.exception.sign, sign)

    def test_too_many(self):
        ordered = sorted(SIGNS)
        folds = " ".join([f"{sign}=~" for sign in ordered[:41]])
        marks = " ".join([f"{sign}:1" for sign in ordered[41:50]])
        for text, limit in ((folds, 40), (marks, 8), (folds + " " + marks, 40)):
            with self.assertRaises(TooMany) as caught:
                Table.from_text(text)
            self.assertEqual(caught.exception.limit, limit)


if __name__ == "__main__":
    unittest.main()

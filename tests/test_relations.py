"""[10] and [3]: tables compared for all words."""

import itertools
import random
import unittest

from namesone.relations import are_alike, failing, is_finer, parting
from namesone.tables import Table
from tests.values import SIGNS, document_table, place, signs_of, words_up_to

# The first table of each is alike to the second one, but written otherwise.
ALIKE = [
    ("", ""),
    ("A=a", "a=A"),
    ("A=b a=b", "a=A b=A"),
    ("", "':1"),
    ("':1 ::1 ^:1", ""),
    ("':1 ::2", "':2 ::1"),
    ("':1 ::2", "':1 ::3"),
    ("':1 ::1 ^:3", "':3 ::3 ^:2"),
    ("A=ab", "A=ab"),
    ("A=ab B=ab", "A=ab B=ab a:1"),
    ("A=a B=b a:1 b:2", "A=a B=b a:3 b:1"),
    ("1=a' A=a ':1 ::2", "1=A' a=A ':1 ::2"),
]
# The first table of each is finer than the second one, and the second one is not finer; the pair parts these two.
FINER = [
    ("", "A=a", ("A", "a")),
    ("", "A=ab", ("A", "ab")),
    ("", "A=abc", ("A", "abc")),
    ("", "':1 ::2", ("':", ":'")),
    ("A=a", "A=a B=a", ("A", "B")),
    ("A=a", "A=a B=b", ("B", "b")),
    ("A=a ':1 ::2", "A=a ':1 ::2 ^:3", ("'^", "^'")),
    ("':1 ::1 ^:2", "':1 ::2 ^:3", ("':", ":'")),
    ("A=ab", "A=ab a:1 b:2", ("A", "ba")),
    ("A=a' B='a", "A=a' B='a ':2 a:1", ("A", "B")),
]
# Neither is finer; the pairs part them the one way and the other way.
NEITHER = [
    ("A=a", "B=b", ("A", "a"), ("B", "b")),
    ("A=a", "A=b", ("A", "a"), ("A", "b")),
    ("A=aa", "A=a", ("A", "aa"), ("A", "a")),
    ("A=ab", "A=ba", ("A", "ab"), ("A", "ba")),
    ("A=a", "':1 ::2", ("A", "a"), ("':", ":'")),
    ("':1 ::2", "':1 ^:2", ("':", ":'"), ("'^", "^'")),
    ("':1 ::2 ^:2", "':1 ::1 ^:2", ("':", ":'"), (":^", "^:")),
    ("A=abc B=abc C=x", "A=abc C=xy D=xy", ("A", "B"), ("C", "D")),
]
TEXTS = sorted({text for row in ALIKE + FINER + NEITHER for text in row if isinstance(text, str)})


def is_before(one, other):
    return place(one) < place(other)


def least_parting(one, other):
    """The least of all pairs with at most four signs that part two tables."""
    by_key = {}
    for word in words_up_to(signs_of(one, other) or ["a"], 3):
        by_key.setdefault(one(word), []).append(word)
    pairs = [(u, v) for words in by_key.values() for u, v in itertools.combinations(words, 2)
             if len(u) + len(v) <= 4 and other(u) != other(v)]
    return min(pairs, key=lambda pair: (len(pair[0] + pair[1]), place(pair[0]), place(pair[1])), default=None)


class RelationCase(unittest.TestCase):
    def check(self, one, other):
        """Checks all of a pair of tables by going through all pairs of few signs; the least parting pair."""
        told = f"{one} | {other}"
        pair = parting(one, other)
        self.assertEqual(pair, least_parting(one, other), told)
        self.assertIs(is_finer(one, other), pair is None, told)
        self.assertEqual(failing(one, other) == [], pair is None, told)
        self.assertIs(are_alike(one, other), pair is None and parting(other, one) is None, told)
        if pair is not None:
            self.assertIs(type(pair), tuple)
            self.assertTrue(is_before(*pair), told)
            self.assertEqual(one(pair[0]), one(pair[1]), told)
            self.assertNotEqual(other(pair[0]), other(pair[1]), told)
        return pair


class RelationsTest(RelationCase):
    def test_equal_tables(self):
        for text in TEXTS:
            table = Table.from_text(text)
            self.assertIs(is_finer(table, table), True)
            self.assertIs(are_alike(table, Table.from_text(text)), True)
            self.assertEqual(failing(table, Table.from_text(text)), [])
            self.assertIsNone(self.check(table, Table.from_text(text)))

    def test_alike_tables_written_otherwise(self):
        for one, other in ALIKE:
            for pair in ((one, other), (other, one)):
                tables = [Table.from_text(text) for text in pair]
                self.assertIs(is_finer(*tables), True, pair)
                self.assertIs(are_alike(*tables), True, pair)
                self.assertIsNone(self.check(*tables))

    def test_finer_and_coarser_tables(self):
        for one, other, pair in FINER:
            finer = Table.from_text(one)
            coarser = Table.from_text(other)
            self.assertIs(is_finer(finer, coarser), True, one)
            self.assertIs(is_finer(coarser, finer), False, one)
            self.assertIs(are_alike(finer, coarser), False)
            self.assertIs(are_alike(coarser, finer), False)
            self.assertIsNone(self.check(finer, coarser))
            self.assertEqual(self.check(coarser, finer), pair)

    def test_neither(self):
        for one, other, there, back in NEITHER:
            tables = [Table.from_text(text) for text in (one, other)]
            self.assertIs(are_alike(*tables), False)
            self.assertEqual(self.check(*tables), there)
            self.assertEqual(self.check(*tables[::-1]), back)

    def test_all_of_them_with_each_other(self):
        for one, other in itertools.product(TEXTS, TEXTS[::3]):
            self.check(Table.from_text(one), Table.from_text(other))

    def test_tables_of_all_kinds(self):
        chance = random.Random(10)
        for _ in range(200):
            tables = []
            for _ in range(2):
                keys = chance.sample("abcde", chance.randint(0, 3))
                others = [sign for sign in "abcde" if sign not in keys]
                folds = {key: "".join(chance.choices(others, k=chance.choice([1, 1, 2, 3]))) for key in keys}
                tables.append(Table(folds, {sign: chance.randint(1, 3) for sign in others if chance.random() < 0.6}))
            self.check(*tables)
            self.check(tables[0], Table(dict(list(tables[0].folds.items())[1:]), tables[0].marks))

    def test_tables_that_differ_in_their_marks_alone(self):
        chance = random.Random(11)
        sizes = set()
        for _ in range(200):
            folds = {key: "".join(chance.choices("x':^", k=chance.choice([1, 2, 2, 3]))) for key in "ABC"}
            marks = [{sign: chance.randint(1, 3) for sign in "':^" if chance.random() < 0.8} for _ in range(2)]
            pair = self.check(Table(folds, marks[0]), Table(folds, marks[1]))
            sizes.add(pair and (len(pair[0]), len(pair[1])))
        self.assertEqual(sizes, {None, (1, 1), (1, 2), (1, 3), (2, 2)})

    def test_tables_that_differ_a_little(self):
        chance = random.Random(12)
        for _ in range(200):
            folds = {key: "".join(chance.choices("ab'", k=chance.choice([1, 1, 2, 3]))) for key in "AB"}
            one = Table(folds, {"'": chance.randint(1, 2), "a": chance.randint(1, 2)})
            key = chance.choice("AB")
            other = Table({**folds, key: "".join(chance.choices("ab'", k=len(folds[key])))}, one.marks)
            self.check(one, other)

    def test_signs_of_the_second_table_alone(self):
        # What only the second table tells to be one parts nothing.
        for text in ("x=y", "x=ab", "x:1 y:2", "a:1 b:2 x:3", "b:1 x:2", "A=x"):
            pair = self.check(Table.from_text("A=ab"), Table.from_text(text))
            self.assertEqual(pair, ("A", "ab"))
            self.assertIsNone(self.check(Table({}, {}), Table.from_text(text)))

    def test_finer_means_all_words(self):
        words = words_up_to("aAb':", 3)
        for one, other in itertools.product(TEXTS, TEXTS):
            one = Table.from_text(one)
            other = Table.from_text(other)
            if is_finer(one, other):
                keys = {}
                for word in words:
                    self.assertEqual(other(word), keys.setdefault(one(word), other(word)))

    def test_what_is_handed_over_stays(self):
        one = document_table()
        other = Table({}, {})
        found = failing(one, other)
        found.clear()
        parting(one, other)
        self.assertEqual(len(failing(one, other)), 3)
        self.assertEqual(one, document_table())
        self.assertEqual(other, Table({}, {}))


class FailingTest(unittest.TestCase):
    def test_folds_before_marks_both_ascending(self):
        table = Table({"z": "x", "A": "abc", "1": "a'"}, {":": 2, "'": 1, "^": 3, "-": 2})
        self.assertEqual(failing(table, Table({}, {})), [
            ("1", "a'"), ("A", "abc"), ("z", "x"),
            ("'-", "-'"), ("':", ":'"), ("'^", "^'"), ("-^", "^-"), (":^", "^:")])

    def test_only_those_that_fail(self):
        table = Table({"A": "a", "B": "b", "C": "ab"}, {"'": 1, ":": 2, "^": 3})
        self.assertEqual(failing(table, Table({"A": "a", "B": "b"}, {"'": 2, ":": 1})), [
            ("C", "ab"), ("'^", "^'"), (":^", "^:")])
        self.assertEqual(failing(table, Table({"A": "b", "a": "b"}, {"'": 2, ":": 1, "^": 3})), [
            ("B", "b"), ("C", "ab")])
        self.assertEqual(failing(table, table), [])

    def test_the_empty_table(self):
        empty = Table({}, {})
        self.assertEqual(failing(empty, document_table()), [])
        self.assertEqual(failing(empty, empty), [])
        self.assertEqual(failing(document_table(), empty), [("1", "a'"), ("A", "a"), ("':", ":'")])

    def test_marks_of_one_class_do_not_fail(self):
        self.assertEqual(failing(Table({}, {"'": 1, ":": 1}), Table({}, {})), [])

    def test_the_order_of_the_dicts_is_not_told(self):
        folds = [("A", "a"), ("B", "bb"), ("1", "x")]
        marks = [("'", 1), (":", 2), ("^", 1)]
        expected = failing(Table(dict(folds), dict(marks)), Table({}, {}))
        for some, more in itertools.product(itertools.permutations(folds), itertools.permutations(marks)):
            self.assertEqual(failing(Table(dict(some), dict(more)), Table({}, {})), expected)


class LargeTest(unittest.TestCase):
    def table(self, width):
        """A table of forty folds and eight marks; each word is so wide."""
        words = [sign * width for sign in "abcdefgh"]
        folds = {sign: words[at % 8] for at, sign in enumerate(SIGNS[8:48])}
        return Table(folds, {sign: at % 3 + 1 for at, sign in enumerate(SIGNS[48:56])})

    def test_itself_and_the_empty_table(self):
        for width in (1, 2, 3):
            table = self.table(width)
            self.assertEqual((len(table.folds), len(table.marks)), (40, 8))
            self.assertIsNone(parting(table, self.table(width)))
            self.assertIs(is_finer(Table({}, {}), table), True)
            self.assertIsNone(parting(Table({}, {}), table))
            self.assertEqual(len(failing(table, Table({}, {}))), 40 + 21)
            self.assertEqual(parting(table, Table({}, {})), ("A", "I"))

    def test_one_fold_missing(self):
        for width in (1, 2, 3):
            table = self.table(width)
            folds = table.folds
            del folds["N"]
            self.assertEqual(parting(table, Table(folds, table.marks)), ("F", "N"))
            self.assertEqual(failing(table, Table(folds, table.marks)), [("N", table.folds["N"])])
            self.assertIs(is_finer(Table(folds, table.marks), table), True)

    def test_one_mark_missing(self):
        table = self.table(1)
        marks = table.marks
        last = sorted(marks)[-1]
        del marks[last]
        fewer = Table(table.folds, marks)
        expected = [(a + last, last + a) for a in sorted(marks) if marks[a] != table.marks[last]]
        self.assertEqual(failing(table, fewer), expected)
        self.assertEqual(parting(table, fewer), expected[0])
        self.assertIs(is_finer(fewer, table), True)

    def test_words_of_three_signs_with_many_spellings(self):
        folds = {sign: "abc"[at % 3] for at, sign in enumerate(SIGNS[10:49])}
        self.assertEqual(parting(Table({**folds, "9": "abc"}, {}), Table(folds, {})), ("9", "CAB"))
        self.assertEqual(parting(Table({**folds, "9": "abc"}, {}), Table({**folds, "9": "abd"}, {})), ("9", "CAB"))


class ManySpellingsTest(unittest.TestCase):
    """Tables for which some words have very many spellings; the least pairs are told by the least of these."""

    FOLDS = {sign: "~" for sign in SIGNS[:38]}

    def test_three_signs(self):
        one = Table({**self.FOLDS, "8": "~~~"}, {"'": 1, ":": 2})
        self.assertEqual(parting(one, Table({**self.FOLDS, "8": "~~~"}, {})), ("':", ":'"))
        self.assertEqual(parting(one, Table(self.FOLDS, one.marks)), ("8", "AAA"))
        for word, back in (("~~", "AA"), ("~", "A"), ("~~9", "AA9"), ("9~9", "9A9"), ("M", "M")):
            other = Table({**self.FOLDS, "8": word}, {})
            self.assertEqual(parting(one, other), ("8", "AAA"))
            self.assertEqual(parting(other, one), ("8", back))

    def test_two_signs(self):
        one = Table({**self.FOLDS, "8": "~~", "9": "~~~"}, {})
        self.assertEqual(parting(one, Table({**self.FOLDS, "8": "~~"}, {})), ("9", "8A"))
        self.assertEqual(parting(one, Table({**self.FOLDS, "9": "~~~"}, {})), ("8", "AA"))
        self.assertEqual(parting(one, Table(self.FOLDS, {})), ("8", "AA"))

    def test_two_marks(self):
        folds = {sign: "':^"[at % 3] for at, sign in enumerate(SIGNS[:39])}
        one = Table(folds, {"'": 1, ":": 2, "^": 3})
        # The least sign for ^ is A, because A is before it.
        self.assertEqual(parting(one, Table(folds, {"'": 1, ":": 2})), ("'A", "A'"))
        self.assertEqual(parting(one, Table(folds, {"'": 1, ":": 2, "^": 2})), (":A", "A:"))
        self.assertEqual(parting(one, Table(folds, {"^": 1, ":": 2})), ("':", ":'"))
        self.assertIsNone(parting(one, Table(folds, {"'": 3, ":": 2, "^": 1})))


if __name__ == "__main__":
    unittest.main()

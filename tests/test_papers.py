"""[8] and [3]: papers, which show that two names are one or where they part."""

import copy
import itertools
import unittest

from namesone.exchanges import exchanges
from namesone.papers import holds, paper
from namesone.tables import Table
from tests.values import any_values, document_table, words_up_to

TEXTS = [
    "",
    "A=a",
    "1=a' A=a ':1 ::2",
    "A=aa B=a",
    "A=: B=': ':1 ::2",
    "A=': B=:' ':2 ::1",
    "A=a B=a ':1 ::1",
]


def tables():
    return [Table.from_text(text) for text in TEXTS]


def is_way(table, one, other, way):
    """Whether a list of strings is a way, asked of each step."""
    if not way or (way[0], way[-1]) != (one, other):
        return False
    return all(after in exchanges(table, before) for before, after in zip(way, way[1:]))


def first_difference(one, other):
    """The first index at which two strings differ, with a sign of no name where one has ended."""
    pairs = list(itertools.zip_longest(one, other, fillvalue="*"))
    return [left != right for left, right in pairs].index(True)


class PaperTest(unittest.TestCase):
    def check(self, table, one, other):
        shown = paper(table, one, other)
        self.assertIs(type(shown), tuple)
        self.assertEqual(len(shown), 2)
        if table(one) == table(other):
            self.assertEqual(shown[0], "one")
            self.assertIs(type(shown[1]), list)
            self.assertTrue(is_way(table, one, other, shown[1]), (str(table), shown))
        else:
            self.assertEqual(shown, ("two", first_difference(table(one), table(other))))
            self.assertIs(type(shown[1]), int)
        self.assertIs(holds(table, one, other, shown), True)

    def test_all_short_names(self):
        for table in tables():
            names = words_up_to("aA1':", 2)
            for one, other in itertools.product(names, names):
                self.check(table, one, other)

    def test_the_example_of_the_document(self):
        self.check(document_table(), "b1:", "bA:'")
        self.assertEqual(paper(document_table(), "b1:", "b1:"), ("one", ["b1:"]))

    def test_indexes(self):
        table = document_table()
        for one, other, index in (
                ("a", "b", 0), ("a", "ab", 1), ("ab", "a", 1), ("1", "A", 1), ("A", "1", 1), ("1b", "Ab", 1),
                ("b:'", "b':'", 2), ("xyz", "xyzA", 3), ("1c", "ac", 1), ("A" * 12, "A" * 11, 11)):
            self.assertEqual(paper(table, one, other), ("two", index), (one, other))
            self.check(table, one, other)

    def test_an_index_counts_the_signs_of_the_keys(self):
        table = Table({"A": "abc"}, {})
        self.assertEqual(paper(table, "Ax", "Ay"), ("two", 3))
        self.assertEqual(paper(table, "A" * 11 + "x", "A" * 12), ("two", 33))

    def test_longest_names(self):
        table = Table({"A": "^:'", "B": "':^", "C": "c"}, {"'": 1, ":": 2, "^": 3})
        for one, other in (("A" * 12, "B" * 12), ("cCcCcCcCcCcC", "CcCcCcCcCcCc"), ("A" * 12, "B" * 11 + "'")):
            self.check(table, one, other)

    def test_equal_calls_give_equal_new_papers(self):
        table = document_table()
        shown = paper(table, "b1:", "bA:'")
        again = paper(document_table(), "b1:", "bA:'")
        self.assertEqual(shown, again)
        shown[1].clear()
        self.assertEqual(paper(table, "b1:", "bA:'"), again)


class BentPaperTest(unittest.TestCase):
    def one_papers(self):
        table = document_table()
        names = ["b1:", "bA:'", "a", "A", "1A1", "a'aa'", "A1':", "aa':'", "1:'1"]
        return [(table, one, other, paper(table, one, other)[1])
                for one, other in itertools.product(names, names) if table(one) == table(other)]

    def two_papers(self):
        return [(table, one, other, paper(table, one, other)[1])
                for table in tables() for one in words_up_to("aA':", 2) for other in words_up_to("aA1:", 2)
                if table(one) != table(other)]

    def check(self, table, one, other, way):
        self.assertIs(holds(table, one, other, ("one", way)), is_way(table, one, other, way), (one, other, way))

    def test_there_are_papers_of_both_kinds(self):
        self.assertGreater(len(self.one_papers()), 10)
        self.assertGreater(len(self.two_papers()), 1000)

    def test_a_string_left_out(self):
        for table, one, other, way in self.one_papers():
            for at in range(len(way)):
                self.check(table, one, other, way[:at] + way[at + 1:])
        self.assertIs(holds(document_table(), "A", "A", ("one", [])), False)
        table = document_table()
        self.assertIs(holds(table, "b1:", "bA:'", ("one", ["b1:", "bA:'"])), False)

    def test_a_string_twice(self):
        for table, one, other, way in self.one_papers():
            for at in range(len(way)):
                bent = way[:at] + [way[at]] + way[at:]
                self.assertIs(holds(table, one, other, ("one", bent)), False)

    def test_strings_exchanged(self):
        for table, one, other, way in self.one_papers():
            for at, to in itertools.combinations(range(len(way)), 2):
                bent = list(way)
                bent[at], bent[to] = bent[to], bent[at]
                self.check(table, one, other, bent)
            self.check(table, one, other, way[::-1])

    def test_a_string_changed(self):
        for table, one, other, way in self.one_papers():
            for at in range(len(way)):
                for text in ("", way[at] + "a", way[at][1:], way[at] + "'", "x", way[at].swapcase(), one, "\u00e9"):
                    self.check(table, one, other, way[:at] + [text] + way[at + 1:])

    def test_a_part_of_another_kind(self):
        for table, one, other, way in self.one_papers():
            for at in range(len(way)):
                for thing in (None, 0, True, [], [way[at]], (way[at],), list(way[at]), {}, way[at].encode()):
                    bent = way[:at] + [thing] + way[at + 1:]
                    self.assertIs(holds(table, one, other, ("one", bent)), False)

    def test_ways_there_and_back_hold(self):
        table = document_table()
        self.assertIs(holds(table, "A", "A", ("one", ["A"])), True)
        self.assertIs(holds(table, "A", "A", ("one", ["A", "a", "A"])), True)
        self.assertIs(holds(table, "A", "a", ("one", ["A", "a", "A", "a"])), True)
        self.assertIs(holds(table, "':", ":'", ("one", ["':", ":'", "':", ":'"])), True)

    def test_ways_through_strings_longer_than_words(self):
        table = Table({"A": "abc", "B": "abc"}, {})
        way = paper(table, "A" * 12, "B" * 12)[1]
        up = ["B" * 12]
        for at in range(12):
            up.append("B" * (11 - at) + "abc" * (at + 1))
        self.assertEqual(len(up[-1]), 36)
        self.assertIs(holds(table, "A" * 12, "B" * 12, ("one", way + up[1:] + up[:-1][::-1])), True)

    def test_a_way_of_very_many_strings(self):
        table = document_table()
        self.assertIs(holds(table, "A", "a", ("one", ["A", "a"] * 1450)), True)
        self.assertIs(holds(table, "A", "A", ("one", ["A", "a"] * 1450)), False)
        self.assertIs(holds(table, "A", "a", ("one", ["A", "a"] * 700 + ["a"] + ["A", "a"] * 700)), False)

    def test_a_way_for_other_names(self):
        table = document_table()
        shown = paper(table, "b1:", "bA:'")
        for one, other in (("b1:", "b1:"), ("bA:'", "b1:"), ("b1:", "ba:'"), ("1:", "A:'"), ("b", "b")):
            self.assertIs(holds(table, one, other, shown), False)
        self.assertIs(holds(Table({}, {}), "b1:", "bA:'", shown), False)

    def test_an_index_one_off(self):
        for table, one, other, index in self.two_papers():
            for bent in (index - 1, index + 1, -1, index + 10 ** 39, str(index), [index], None):
                self.assertIs(holds(table, one, other, ("two", bent)), False)

    def test_truth_values_are_no_indexes(self):
        table = document_table()
        self.assertIs(holds(table, "ab", "aa", ("two", 1)), True)
        self.assertIs(holds(table, "ab", "aa", ("two", True)), False)
        self.assertIs(holds(table, "b", "a", ("two", 0)), True)
        self.assertIs(holds(table, "b", "a", ("two", False)), False)

    def test_the_other_kind_of_paper(self):
        for table, one, other, way in self.one_papers():
            for index in (None, 0, 1, len(one), len(table(one))):
                self.assertIs(holds(table, one, other, ("two", index)), False)
            self.assertIs(holds(table, one, other, ("two", way)), False)
        for table, one, other, index in self.two_papers()[::50]:
            for way in ([], [one], [one, other], index, None):
                self.assertIs(holds(table, one, other, ("one", way)), False)

    def test_a_list_for_a_tuple_and_a_tuple_for_a_list(self):
        for table, one, other, way in self.one_papers():
            for bent in (["one", way], ("one", tuple(way)), ("one", way, way), ("one",), ("one", *way), (way, "one"),
                         ("One", way), (["one"], way), (True, way), ("one", {text: 1 for text in way}), ("one", one)):
                self.assertIs(holds(table, one, other, bent), False)
        for table, one, other, index in self.two_papers()[::50]:
            for bent in (["two", index], ("two", index, 0), ("two",), (index, "two"), ("tow", index), (None, index)):
                self.assertIs(holds(table, one, other, bent), False)

    def test_any_values(self):
        table = document_table()
        for thing in any_values():
            for one, other in (("a", "A"), ("a", "b")):
                self.assertIs(holds(table, one, other, thing), False)
                self.assertIs(holds(table, one, other, ("one", thing)), False)
                self.assertIs(holds(table, one, other, ("one", [thing])), False)
                self.assertIs(holds(table, one, other, (thing, ["a", "A"])), thing == "one" and other == "A")
                self.assertIs(holds(table, one, other, (thing, 0)), thing == "two" and other == "b")

    def test_what_is_handed_over_stays(self):
        table = document_table()
        for thing in (("one", ["A", "a"]), ("one", ["A", ["a"], "a"]), ["one", ["A", "a"]], ("two", [1]), {"one": ["A"]}):
            kept = copy.deepcopy(thing)
            holds(table, "A", "a", thing)
            self.assertEqual(thing, kept)
        self.assertEqual(table, document_table())


if __name__ == "__main__":
    unittest.main()

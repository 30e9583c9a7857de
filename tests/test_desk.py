"""[18] and [19]: the desk and its commands."""

import random
import unittest

from namesone.desk import Desk
from namesone.errors import (
    Barred, Inside, Missing, NoCommand, NoFile, NoFold, NoMark, NoText, Present, TooMany, Unknown)
from namesone.papers import paper
from namesone.relations import parting
from namesone.spellings import shortest
from namesone.tables import Table
from namesone.trees import Tree
from tests.test_trees import TreeCase
from tests.values import SIGNS, any_values, error_of, low_table, plain_table

LOW = str(low_table())
TEXT = "1=a' A=a ':1 ::2"


def desk_of(*commands):
    """A desk to which commands were said, and each was answered with ok."""
    desk = Desk()
    for command in commands:
        assert desk.say(command) == "ok", command
    return desk


def example():
    return desk_of(
        "table low " + LOW, "table doc " + TEXT, "change low", "folder Docs", "folder docs/Old",
        "file docs/old/a.txt 1", "file Readme 2", "link l docs/old")


class DeskCase(TreeCase):
    def answers(self, desk, rows):
        for command, answer in rows:
            found = desk.say(command)
            self.assertIs(type(found), str)
            self.assertEqual(found, answer, command)

    def refused(self, desk, error, command):
        """Checks an error, and that nothing is changed by it."""
        self.unchanged(_Shown(desk), error, desk.say, command)


WORDS = ("A", "B", "1", ":'", "b:'")


class _Shown:
    """A desk that is looked at as a tree, with what its tables answer."""

    def __init__(self, desk):
        self._desk = desk

    def copy(self):
        return (self._desk.tree(), self.tables())

    def same(self, other):
        return self._desk.tree().same(other[0]) and self.tables() == other[1]

    def tables(self):
        commands = [f"key {name} {word}" for name in ("plain", "low", "doc", "x") for word in WORDS]
        return [error_of(self._desk.say, command) or self._desk.say(command) for command in commands]


class NewDeskTest(DeskCase):
    def test_it_begins_with_the_table_plain_and_an_empty_tree(self):
        desk = Desk()
        self.assertTrue(desk.tree().same(Tree(Table({}, {}))))
        self.answers(desk, [("list", "-"), ("finer plain plain", "yes"), ("one plain a A", "two 0")])
        for sign in SIGNS:
            self.answers(desk, [(f"key plain {sign}", sign)])
        self.assertEqual(desk.tree().table_of(), plain_table())

    def test_no_other_tables(self):
        for name in ("x", "low", "table", "plai", "plainx", "list"):
            self.refused(Desk(), (Unknown, name), f"key {name} a")

    def test_it_takes_no_arguments(self):
        with self.assertRaises(TypeError):
            Desk(Tree(plain_table()))

    def test_two_desks_share_nothing(self):
        one, other = Desk(), Desk()
        self.answers(one, [("table plain " + LOW, "ok"), ("table x", "ok"), ("file a 1", "ok"), ("change plain", "ok")])
        self.answers(other, [("key plain A", "A"), ("list", "-"), ("file a 2", "ok"), ("file A 3", "ok")])
        self.refused(other, (Unknown, "x"), "key x a")
        self.answers(one, [("read A", "1"), ("key plain A", "a"), ("list", "a")])
        self.assertEqual(other.tree().table_of(), plain_table())
        self.assertEqual(Desk().say("list"), "-")
        self.assertEqual(Desk().say("key plain A"), "A")

    def test_the_tree_is_a_copy(self):
        desk = example()
        tree = desk.tree()
        self.assertIsInstance(tree, Tree)
        self.assertIsNot(tree, desk.tree())
        tree.remove("docs")
        tree.change(None, plain_table())
        self.answers(desk, [("list DOCS", "Old"), ("list", "Docs l Readme")])
        kept = desk.tree()
        desk.say("remove docs")
        self.assertIn("docs", kept)

    def test_by_name(self):
        self.assertEqual(Desk().say(command="list"), "-")


class TableTest(DeskCase):
    def test_new_tables(self):
        desk = desk_of("table low " + LOW, "table doc " + TEXT, "table abcdefgh A=a", "table z", "table e ")
        self.answers(desk, [("key low AbC", "abc"), ("key doc bA:'", "ba':"), ("key abcdefgh A", "a"), ("key z A", "A"),
                            ("key e A", "A"), ("key plain A", "A")])

    def test_in_the_place_of_an_earlier_one(self):
        desk = desk_of("table x A=a", "table x B=b")
        self.answers(desk, [("key x AB", "Ab"), ("table x", "ok"), ("key x AB", "AB"), ("table x B=b", "ok"),
                            ("table x ", "ok"), ("key x AB", "AB"), ("table plain B=b", "ok"), ("key plain B", "b")])

    def test_tables_that_are_replaced_stay_in_the_tree(self):
        desk = desk_of("table x A=a", "change x", "folder A", "table x", "file a/B 1", "table plain B=b")
        self.answers(desk, [("real a", "A"), ("real a/B", "A/B"), ("key x A", "A")])
        self.refused(desk, (Missing, "a/b"), "real a/b")
        self.assertEqual(desk.tree().table_of(), Table({"A": "a"}, {}))
        self.assertEqual(desk.tree().table_of("A"), Table({"A": "a"}, {}))

    def test_all_written_tables(self):
        for text in ("", "A=a", "':1", LOW, TEXT, "':1 -:2 .:3", "1=abc :=' -:1", "A=abc"):
            desk = desk_of("table x " + text, "change x")
            self.assertEqual(desk.tree().table_of(), Table.from_text(text))

    def test_texts_that_are_none(self):
        desk = example()
        for text, index in (
                (" ", 0), ("  ", 0), ("A=a ", 1), (" A=a", 0), ("A=a  B=b", 1), ("A", 0), ("A=", 0), ("=a", 0),
                ("A=abcd", 0), ("A=a b", 1), ("B=b A=a", 1), ("A=a A=b", 1), ("A:4", 0), ("A:0", 0), ("A:1 B=b", 1),
                ("A=a\n", 0), ("\n", 0), ("A=a\tB=b", 0), ("AB=a", 0), ("A=a B:12", 1), ("\u00c4=a", 0),
                ("A=\u00e4", 0), ("low", 0), ("-", 0)):
            for name in ("x", "low", "plain"):
                self.refused(desk, (NoText, index), f"table {name} {text}")

    def test_texts_of_tables_that_are_none(self):
        desk = example()
        self.refused(desk, (NoFold, "A"), "table x A=B B=b")
        self.refused(desk, (NoFold, "A"), "table low A=Aa")
        self.refused(desk, (NoMark, "A"), "table low A=a A:1")
        many = " ".join([f"{sign}=~" for sign in sorted(SIGNS[:41])])
        self.refused(desk, (TooMany, 40), "table low " + many)
        marks = " ".join([f"{sign}:1" for sign in sorted(SIGNS[:9])])
        self.refused(desk, (TooMany, 8), "table low " + marks)

    def test_names_that_are_none(self):
        desk = example()
        for name in ("", "A", "Low", "lOw", "abcdefghi", "a1", "a-b", "l\u00f6w", "\u00e9", "a\n", "\ta", "a'", "a.b",
                     "1", "_", "\u0430"):
            for text in ("", " ", " A=a", " x", " A=a  "):
                self.refused(desk, (NoCommand,), f"table {name}{text}")
        for command in ("table", "table ", "table  ", "table  x", "table  x A=a", " table x", "tablex", "tables x",
                        "Table x", "table\tx", "table\nx A=a"):
            self.refused(desk, (NoCommand,), command)


class QuestionsOfTablesTest(DeskCase):
    def test_key(self):
        self.answers(example(), [
            ("key doc b1:", "ba':"), ("key doc bA:'", "ba':"), ("key low ABCDEFGHIJKL", "abcdefghijkl"),
            ("key plain ~", "~"), ("key doc 111111111111", "a'" * 12)])

    def test_one(self):
        self.answers(example(), [
            ("one doc b1: bA:'", "one"), ("one doc a a", "one"), ("one low Ab aB", "one"), ("one plain a A", "two 0"),
            ("one doc b1 b", "two 1"), ("one low abc abd", "two 2"), ("one low abcdefghijkl ABCDEFGHIJK", "two 11"),
            ("one doc 111111111111 11111111111A", "two 23")])

    def test_shortest(self):
        self.answers(example(), [
            ("shortest doc ba':", "b1:"), ("shortest doc a", "A"), ("shortest low abc", "ABC"),
            ("shortest plain abc", "abc"), ("shortest doc :'", "':")])

    def test_finer(self):
        self.answers(example(), [
            ("finer plain low", "yes"), ("finer low plain", "A a"), ("finer low low", "yes"), ("finer doc low", "1 A'"),
            ("finer low doc", "B b"), ("finer doc doc", "yes")])

    def test_against_the_functions(self):
        texts = ["A=a", "A=ab B=ab", TEXT, "':1 ::2", "':1 ::2 ^:3", "A=abc B=b", "A=a' B='a"]
        words = ["a", "A", "1", "a'", "':", ":'", "ab", "B", "abc"]
        desk = desk_of(*[f"table {'abcdefgh'[at]} {text}" for at, text in enumerate(texts)])
        tables = {"abcdefgh"[at]: Table.from_text(text) for at, text in enumerate(texts)}
        for name, table in tables.items():
            for word in words:
                self.answers(desk, [(f"key {name} {word}", table(word)),
                                    (f"shortest {name} {word}", shortest(table, word))])
                for other in words:
                    said, shown = paper(table, word, other)
                    answer = said if said == "one" else f"two {shown}"
                    self.answers(desk, [(f"one {name} {word} {other}", answer)])
            for other in tables:
                pair = parting(table, tables[other])
                self.answers(desk, [(f"finer {name} {other}", " ".join(pair) if pair else "yes")])


class TreeCommandsTest(DeskCase):
    def test_deeds(self):
        desk = example()
        self.assertEqual(list(desk.tree().walk()), [
            ("Docs", "folder", None), ("Docs/Old", "folder", None), ("Docs/Old/a.txt", "file", 1),
            ("Readme", "file", 2), ("l", "link", "docs/old")])
        self.answers(desk, [
            ("write README 7", "ok"), ("read readme", "7"), ("write l/A.txt -12", "ok"), ("read docs/old/a.txt", "-12"),
            ("move docs/old dOCS/older", "ok"), ("list docs", "older"), ("link l2 nothing/at/all", "ok"),
            ("remove L", "ok"), ("list", "Docs l2 Readme"), ("remove DOCS", "ok"), ("list", "l2 Readme"),
            ("move readme x", "ok"), ("folder Y", "ok"), ("move X y/z", "ok"), ("list Y", "z"), ("real y/Z", "Y/z"),
            ("file y/0 0", "ok"), ("read y/0", "0"), ("list y", "0 z")])
        self.assertEqual(list(desk.tree().walk()), [
            ("Y", "folder", None), ("Y/0", "file", 0), ("Y/z", "file", 7), ("l2", "link", "nothing/at/all")])
        self.assertEqual(desk.tree().target("l2"), "nothing/at/all")

    def test_numbers(self):
        for number in ("0", "1", "-1", "9", "10", "-10", "100000000", "999999999", "-999999999", "-100000000"):
            desk = desk_of(f"file a {number}", "file b 5", f"write b {number}")
            self.answers(desk, [("read a", number), ("read b", number)])
            self.assertEqual(desk.tree().read("a"), int(number))

    def test_numbers_written_otherwise(self):
        desk = desk_of("file a 5")
        for number in ("-0", "00", "01", "-01", "007", "+1", "--1", "- 1", "1.0", "1e3", "1_0", "0x1", "1000000000",
                       "-1000000000", "1-", "-", "a", "", "one", "\u0661", "\u00b2", "1\n", "\t1", "0000000001",
                       "1234567890" * 200):
            self.refused(desk, (NoCommand,), f"file b {number}")
            self.refused(desk, (NoCommand,), f"write a {number}")

    def test_change(self):
        desk = example()
        self.answers(desk, [("change plain docs", "ok"), ("file docs/A 1", "ok"), ("file docs/a 2", "ok"),
                            ("list docs", "A Old a"), ("change doc", "ok"), ("list", "Docs Readme l"),
                            ("change plain Docs/Old", "ok")])
        tree = desk.tree()
        self.assertEqual([str(tree.table_of(path)) for path in (None, "Docs", "Docs/Old")], [TEXT, "", ""])
        self.refused(desk, (Barred, "A", "a"), "change low Docs")
        self.refused(desk, (Missing, "docs"), "change low docs")
        self.refused(desk, (Missing, "Readme"), "change low Readme")

    def test_change_of_the_root_is_barred(self):
        desk = desk_of("table low " + LOW, "file b 1", "file a 1", "file B 1", "file A 1")
        self.refused(desk, (Barred, "A", "a"), "change low")
        self.answers(desk, [("remove a", "ok")])
        self.refused(desk, (Barred, "B", "b"), "change low")
        self.answers(desk, [("remove B", "ok"), ("change low", "ok"), ("real a", "A")])

    def test_list(self):
        desk = example()
        self.answers(desk, [("list", "Docs l Readme"), ("list DOCS", "Old"), ("list l", "a.txt"), ("folder e", "ok"),
                            ("list e", "-"), ("file e/- 1", "ok"), ("list e", "-"), ("file e/a 1", "ok"),
                            ("list E", "- a")])
        for path in ("x", "readme", "docs/x", "l/a.txt"):
            self.refused(desk, (Missing, path), "list " + path)

    def test_real_and_read(self):
        desk = example()
        self.answers(desk, [("real L/A.TXT", "Docs/Old/a.txt"), ("real L", "l"), ("real dOCS", "Docs"),
                            ("read L/a.txt", "1")])
        for path in ("x", "docs/x", "readme/x"):
            self.refused(desk, (Missing, path), "real " + path)
            self.refused(desk, (Missing, path), "read " + path)
        for path in ("docs", "L"):
            self.refused(desk, (NoFile, path), "read " + path)

    def test_errors_of_the_tree(self):
        desk = example()
        for command, error in (
                ("folder DOCS", (Present, "DOCS")), ("folder x/y", (Missing, "x/y")),
                ("file README 1", (Present, "README")), ("file readme/x 1", (Missing, "readme/x")),
                ("link L x", (Present, "L")), ("link x/l docs", (Missing, "x/l")), ("write x 1", (Missing, "x")),
                ("write Docs 1", (NoFile, "Docs")), ("write l 1", (NoFile, "l")), ("remove x", (Missing, "x")),
                ("remove docs/x", (Missing, "docs/x")), ("move x y", (Missing, "x")),
                ("move docs x/y", (Missing, "x/y")), ("move docs Readme", (Present, "Readme")),
                ("move docs docs/old/x", (Inside, "docs/old/x")), ("move docs L/x", (Inside, "L/x"))):
            self.refused(desk, error, command)

    def test_names_that_look_like_commands(self):
        desk = desk_of("folder list", "file list/read 3", "table table A=a", "table change", "change table",
                       "link ok list", "change change list")
        self.answers(desk, [("list", "list ok"), ("list list", "read"), ("read ok/read", "3"), ("key table A", "a")])


class NoCommandTest(DeskCase):
    RIGHT = [
        "key low a", "one low a b", "shortest low a", "finer low doc", "folder a", "file a 1", "link a b",
        "write readme 1", "remove l", "move l m", "change low", "change low docs", "list", "list docs", "real l",
        "read readme"]

    def test_values_that_are_no_strings(self):
        for thing in any_values():
            self.refused(example(), (NoCommand,), thing)
        for thing in (["list"], ("list",), {"list": 1}, b"list", [["key", "low", "a"]]):
            self.refused(example(), (NoCommand,), thing)

    def test_the_right_ones(self):
        for command in self.RIGHT:
            self.assertIsInstance(example().say(command), str)

    def test_a_space_more(self):
        desk = example()
        for command in self.RIGHT:
            for at in range(len(command) + 1):
                if " " in command[max(at - 1, 0):at + 1] or at in (0, len(command)):
                    self.refused(desk, (NoCommand,), command[:at] + " " + command[at:])

    def test_another_sign_for_a_space(self):
        desk = example()
        for command in self.RIGHT:
            for sign in "\t\n,\u00a0\x00":
                self.refused(desk, (NoCommand,), command + sign)
                if " " in command:
                    self.refused(desk, (NoCommand,), command.replace(" ", sign))
                    self.refused(desk, (NoCommand,), command.replace(" ", sign + " "))

    def test_a_word_more(self):
        desk = example()
        for command in self.RIGHT:
            if command not in ("list", "change low"):
                for word in ("a", "1", "low"):
                    self.refused(desk, (NoCommand,), f"{command} {word}")
        self.refused(desk, (NoCommand,), "list docs docs")
        self.refused(desk, (NoCommand,), "change low docs docs")

    def test_a_word_less(self):
        desk = example()
        for command in self.RIGHT:
            if command not in ("list", "list docs", "change low docs"):
                self.refused(desk, (NoCommand,), command.rpartition(" ")[0])
        for word in {command.split(" ")[0] for command in self.RIGHT} - {"list"}:
            self.refused(desk, (NoCommand,), word)

    def test_other_first_words(self):
        desk = example()
        for command in self.RIGHT:
            for other in (command.capitalize(), command.upper(), "x" + command, command[1:], "do " + command):
                self.refused(desk, (NoCommand,), other)
        for command in ("", " ", "x", "ok", "tree", "copy", "walk", "names", "end l", "kind l", "target l", "batch",
                        "say list", "count low a 1", "spellings low a", "alike low low", "failing low low", "low",
                        "plain", "x" * 4000):
            self.refused(desk, (NoCommand,), command)

    def test_words_that_are_no_paths(self):
        desk = example()
        for path in ("/", "docs/", "/docs", "docs//old", "a/b/c/d/e/f/g", "abcdefghijklm", "a*b", "\u00e9", "docs\n",
                     "docs/a=b"):
            for command in (
                    f"folder {path}", f"file {path} 1", f"link {path} docs", f"link x {path}", f"write {path} 1",
                    f"remove {path}", f"move {path} x", f"move docs {path}", f"change low {path}", f"list {path}",
                    f"real {path}", f"read {path}"):
                self.refused(desk, (NoCommand,), command)

    def test_words_that_are_no_names(self):
        desk = example()
        for word in ("abcdefghijklm", "a/b", "a*", "\u00e9", "a=b", "a\n", "x" * 40):
            for command in (f"key low {word}", f"one low a {word}", f"one low {word} a", f"shortest low {word}"):
                self.refused(desk, (NoCommand,), command)

    def test_names_of_tables_that_are_none(self):
        desk = example()
        for name in ("Low", "LOW", "abcdefghi", "l1", "a-b", "\u00e9", "a\n", "1", "-"):
            for command in (f"key {name} a", f"one {name} a b", f"shortest {name} a", f"finer {name} low",
                            f"finer low {name}", f"change {name}", f"change {name} docs"):
                self.refused(desk, (NoCommand,), command)


class UnknownTest(DeskCase):
    def test_no_such_table(self):
        desk = example()
        for command in ("key x a", "one x a b", "shortest x a", "finer x low", "finer low x", "finer x x", "change x",
                        "change x docs"):
            self.refused(desk, (Unknown, "x"), command)
        self.refused(desk, (Unknown, "abcdefgh"), "key abcdefgh a")

    def test_the_first_one(self):
        desk = example()
        self.refused(desk, (Unknown, "x"), "finer x y")
        self.refused(desk, (Unknown, "y"), "finer y x")
        self.refused(desk, (Unknown, "y"), "finer plain y")

    def test_no_command_comes_before_unknown(self):
        desk = example()
        for command in ("key x", "key x abcdefghijklm", "one x a", "finer x Y", "finer x y z", "change x docs/",
                        "change x a b", "shortest x a/b", "key x a "):
            self.refused(desk, (NoCommand,), command)

    def test_unknown_comes_before_other_errors(self):
        desk = example()
        self.refused(desk, (Unknown, "x"), "change x nothing")
        self.refused(desk, (Unknown, "x"), "change x readme")
        desk = desk_of("file a 1", "file A 1", "table low " + LOW)
        self.refused(desk, (Unknown, "x"), "change x")
        self.refused(desk, (Barred, "A", "a"), "change low")

    def test_until_it_is_kept(self):
        desk = example()
        self.refused(desk, (Unknown, "x"), "key x A")
        self.refused(desk, (NoText, 0), "table x A")
        self.refused(desk, (Unknown, "x"), "key x A")
        self.answers(desk, [("table x A=a", "ok"), ("key x A", "a")])


class HistoryTest(DeskCase):
    """Commands, each beside the method of a tree that does the same."""

    NAMES = ["a", "A", "b", "1", "a'"]
    TABLES = {"plain": "", "low": LOW, "doc": TEXT}

    def path_of(self, chance):
        return "/".join(chance.choices(self.NAMES, k=chance.choice([1, 1, 2, 2, 3])))

    def step_of(self, chance):
        """A command, the name of a method and its arguments."""
        path, other, number = self.path_of(chance), self.path_of(chance), chance.randint(-9, 9)
        table = chance.choice(sorted(self.TABLES))
        return chance.choice([
            (f"folder {path}", "folder", path), (f"file {path} {number}", "file", path, number),
            (f"link {path} {other}", "link", path, other), (f"write {path} {number}", "write", path, number),
            (f"remove {path}", "remove", path), (f"move {path} {other}", "move", path, other),
            (f"change {table} {path}", "change", path, Table.from_text(self.TABLES[table])),
            (f"change {table}", "change", None, Table.from_text(self.TABLES[table])),
            (f"real {path}", "real_path", path), (f"read {path}", "read", path), (f"list {path}", "names", path),
            ("list", "names")])

    def answer_of(self, result):
        if isinstance(result, list):
            return " ".join(result) or "-"
        return "ok" if result is None else str(result)

    def test_against_a_tree(self):
        seen = set()
        for seed in range(60):
            chance = random.Random(seed)
            desk = desk_of("table low " + LOW, "table doc " + TEXT)
            tree = Tree(plain_table())
            for _ in range(60):
                command, name, *given = self.step_of(chance)
                results = []
                error = error_of(lambda: results.append(getattr(tree, name)(*given)))
                if error is None:
                    self.answers(desk, [(command, self.answer_of(results[0]))])
                else:
                    self.refuses(error, desk.say, command)
                seen.add((command.split(" ")[0], error is None))
                self.assertTrue(desk.tree().same(tree))
        words = {"folder", "file", "link", "write", "remove", "move", "change", "list", "real", "read"}
        self.assertEqual(seen, {(word, done) for word in words for done in (True, False)})


if __name__ == "__main__":
    unittest.main()

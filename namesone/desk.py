"""The desk, which keeps tables and a tree and is told what to do by commands."""

from namesone.commands import form_of, is_table_name
from namesone.deeds import SIZES, do_deed
from namesone.errors import NoCommand, Unknown
from namesone.papers import ONE, paper
from namesone.relations import parting
from namesone.spellings import shortest
from namesone.tables import Table
from namesone.trees import Tree

FIRST_NAME = "plain"
DONE = "ok"


def _key(table, name):
    return table(name)


def _one(table, name, other):
    said, shown = paper(table, name, other)
    return said if said == ONE else f"{said} {shown}"


def _shortest(table, name):
    return shortest(table, name)


def _finer(table, other):
    pair = parting(table, other)
    return "yes" if pair is None else f"{pair[0]} {pair[1]}"


def _change(tree, table, path=None):
    tree.change(path, table)
    return DONE


def _list(tree, path=None):
    names = tree.names(path)
    return " ".join(names) if names else "-"


def _real(tree, path):
    return tree.real_path(path)


def _read(tree, path):
    return str(tree.read(path))


OF_TABLES = {"key": _key, "one": _one, "shortest": _shortest, "finer": _finer}
OF_THE_TREE = {"change": _change, "list": _list, "real": _real, "read": _read}


class Desk:
    """Tables under names, and a tree."""

    def __init__(self):
        table = Table({}, {})
        self._tables = {FIRST_NAME: table}
        self._tree = Tree(table)

    def say(self, command):
        """The answer to a command, which is done."""
        if not isinstance(command, str):
            raise NoCommand()
        word, _, rest = command.partition(" ")
        if word == "table":
            return self._keep(rest)
        given = command.split(" ")[1:]
        form = form_of(word, given)
        if form is None:
            raise NoCommand()
        return self._answer(word, [self._worth(kind, text) for kind, text in zip(form, given)])

    def tree(self):
        """A copy of the tree."""
        return self._tree.copy()

    def _keep(self, rest):
        name, _, text = rest.partition(" ")
        if not is_table_name(name):
            raise NoCommand()
        self._tables[name] = Table.from_text(text)
        return DONE

    def _worth(self, kind, text):
        """What a word of a command stands for."""
        if kind == "number":
            return int(text)
        if kind != "table":
            return text
        if text not in self._tables:
            raise Unknown(text)
        return self._tables[text]

    def _answer(self, word, values):
        if word in SIZES:
            do_deed(self._tree, (word, *values))
            return DONE
        if word in OF_TABLES:
            action = OF_TABLES[word]
            return action(*values)
        action = OF_THE_TREE[word]
        return action(self._tree, *values)

"""Values that several tests use."""

import itertools

from namesone.tables import Table

SIGNS = (
    "abcdefghijklmnopqrstuvwxyz"
    "ABCDEFGHIJKLMNOPQRSTUVWXYZ"
    "0123456789"
    "'-.:^_~"
)


def no_strings():
    """At least one value of each kind that is no string."""
    return [
        None, True, False, 0, 1, -7, 10 ** 40 - 1,
        [], ["a"], ["a", "b"], (), ("a",), ("a", 1), {}, {"a": "a"}, {"a": 1},
        [[["a"]]], ({"a": ["a"]},), b"a", Table({}, {}), Table({"A": "a"}, {"'": 1}),
    ]


def document_table():
    """The table of the example in [6]."""
    return Table({"A": "a", "1": "a'"}, {"'": 1, ":": 2})


def no_paths():
    """Values of all kinds that are no paths."""
    return [
        *no_strings(), "", "/", "//", "a/", "/a", "a//b", "a/b/c/d/e/f/g", "a/b/c/d/e/f/", "abcdefghijklm",
        "a/abcdefghijklm", "a b", "a/b c", " a", "a\n", "a\\b", "\u00e9", "a/\u00e9", "a/*", "*", "x" * 4000, "a/" * 2000,
    ]


def no_numbers():
    """Values of all kinds that are no integers."""
    return [
        None, True, False, "", "1", "a/b", [], [1], (), (1,), {}, {1: 1}, [[1]], b"1", Table({}, {}),
    ]


def no_tables():
    """Values of all kinds that are no tables, but not None."""
    return [
        True, False, 0, 1, "", "A=a", "a", [], [{}, {}], (), ({}, {}), {}, {"A": "a"}, b"", Table,
    ]


def any_values():
    """Values of all kinds."""
    return [*no_paths(), *no_numbers(), *no_tables(), "a", "A", "a/b", "one", "two", ("one",), ("two",), ("two", "a")]


def low_table():
    """A table for which names are one that differ by case only."""
    return Table({sign.upper(): sign for sign in "abcdefghijklmnopqrstuvwxyz"}, {})


def plain_table():
    """A table for which no two names are one."""
    return Table({}, {})


def words_of(signs, size):
    """All words of so many of these signs."""
    return ["".join(word) for word in itertools.product(signs, repeat=size)]


def words_up_to(signs, most):
    """All words of at most so many of these signs, in the order of [4]."""
    return [word for size in range(1, most + 1) for word in words_of(sorted(signs), size)]


def signs_of(*tables):
    """All signs that stand in some tables, ascending."""
    found = set()
    for table in tables:
        found.update(table.folds, *table.folds.values(), table.marks)
    return sorted(found)


def place(word):
    """What words are sorted by in the order of [4]."""
    return (len(word), word)


def error_of(function, *given, **named):
    """The class of the error that a call raises and the fields of the error, or None."""
    try:
        function(*given, **named)
    except Exception as error:
        return (error.__class__, *vars(error).values())
    return None

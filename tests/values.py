"""Values that several tests use."""

from namesone.tables import Table

SIGNS = (
    "abcdefghijklmnopqrstuvwxyz"
    "ABCDEFGHIJKLMNOPQRSTUVWXYZ"
    "0123456789"
    "'-.:^_~"
)


def no_strings():
    """At least one value of each kind that is no string."""
    return [
        None, True, False, 0, 1, -7, 10 ** 40 - 1,
        [], ["a"], ["a", "b"], (), ("a",), ("a", 1), {}, {"a": "a"}, {"a": 1},
        [[["a"]]], ({"a": ["a"]},), b"a", Table({}, {}), Table({"A": "a"}, {"'": 1}),
    ]


def document_table():
    """The table of the example in [6]."""
    return Table({"A": "a", "1": "a'"}, {"'": 1, ":": 2})

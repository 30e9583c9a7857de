"""The commands of the desk: how they are written."""

from namesone.tables import is_name
from namesone.trees import is_path

LETTERS = "abcdefghijklmnopqrstuvwxyz"
DIGITS = "0123456789"
LONGEST_TABLE_NAME = 8
MOST_DIGITS = 9
# What stands behind the first word: a tuple for each way to write the command. The command `table` is not among them,
# because any string may stand at its end.
FORMS = {
    "key": (("table", "name"),),
    "one": (("table", "name", "name"),),
    "shortest": (("table", "name"),),
    "finer": (("table", "table"),),
    "folder": (("path",),),
    "file": (("path", "number"),),
    "link": (("path", "path"),),
    "write": (("path", "number"),),
    "remove": (("path",),),
    "move": (("path", "path"),),
    "change": (("table",), ("table", "path")),
    "list": ((), ("path",)),
    "real": (("path",),),
    "read": (("path",),),
}


def form_of(word, given):
    """The kinds of the words that are given behind the first word of a command, or None if it is no command."""
    for form in FORMS.get(word, ()):
        if len(form) == len(given) and all([_is_of_kind(kind, text) for kind, text in zip(form, given)]):
            return form
    return None


def _is_of_kind(kind, text):
    if kind == "table":
        return is_table_name(text)
    if kind == "name":
        return is_name(text)
    if kind == "number":
        return _is_written_number(text)
    return is_path(text)


def is_table_name(text):
    """Whether a table may be kept under a text."""
    return 1 <= len(text) <= LONGEST_TABLE_NAME and all([sign in LETTERS for sign in text])


def _is_written_number(text):
    digits = text.removeprefix("-")
    if not 1 <= len(digits) <= MOST_DIGITS or not all([sign in DIGITS for sign in digits]):
        return False
    # Written back, it has no leading zeros, and 0 has no sign.
    return text == str(int(text))

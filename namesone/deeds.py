"""Deeds: single changes of a tree, given as values."""

from namesone.errors import Inside, Missing, NoFile, NoNumber, NoPath, Present

SIZES = {"folder": 2, "file": 3, "link": 3, "write": 3, "remove": 2, "move": 3}


def is_done(tree, thing):
    """Does what any value tells if it is a deed; whether it was one and raised no error."""
    if not _is_formed(thing):
        return False
    try:
        do_deed(tree, thing)
    except (NoPath, NoNumber, Missing, Present, NoFile, Inside):
        return False
    return True


def _is_formed(thing):
    """Whether a value has the form of a deed; the tree asks of its paths and numbers."""
    if not isinstance(thing, tuple) or thing == () or not isinstance(thing[0], str):
        return False
    return len(thing) == SIZES.get(thing[0])


def do_deed(tree, deed):
    """Does a deed by the method of the tree with its name."""
    word = deed[0]
    if word == "folder":
        tree.folder(deed[1])
    elif word == "file":
        tree.file(deed[1], deed[2])
    elif word == "link":
        tree.link(deed[1], deed[2])
    elif word == "write":
        tree.write(deed[1], deed[2])
    elif word == "remove":
        tree.remove(deed[1])
    else:
        tree.move(deed[1], deed[2])

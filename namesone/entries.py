"""The entries of a tree, and what is done with them in one folder."""

from namesone.tables import key_of


class Folder:
    """A folder with its table and its entries; the root is one whose name is empty."""

    def __init__(self, name, table):
        self.name = name
        # A table never changes, so folders may share it.
        self.table = table
        # By the keys of their names: so no two of them have names that are one.
        self.inside = {}


class File:
    """A file with its content."""

    def __init__(self, name, content):
        self.name = name
        self.content = content


class Link:
    """A link with the path that is its target."""

    def __init__(self, name, goal):
        self.name = name
        self.goal = goal


def kind_of(entry):
    """The kind of an entry, as a word."""
    if isinstance(entry, Folder):
        return "folder"
    if isinstance(entry, File):
        return "file"
    return "link"


def worth_of(entry):
    """The content of a file, the target of a link, None for a folder."""
    if isinstance(entry, File):
        return entry.content
    if isinstance(entry, Link):
        return entry.goal
    return None


def entry_in(folder, name):
    """The entry of a folder whose name is one with a name, or None."""
    return folder.inside.get(key_of(folder.table, name))


def put_in(folder, entry):
    """Adds an entry to a folder that has none of such a name."""
    folder.inside[key_of(folder.table, entry.name)] = entry


def take_out(folder, entry):
    """Takes an entry out of its folder."""
    del folder.inside[key_of(folder.table, entry.name)]


def give_table(folder, table):
    """Gives a folder another table, for which no two names of its entries are one."""
    entries = list(folder.inside.values())
    folder.table = table
    folder.inside = {key_of(table, entry.name): entry for entry in entries}


def names_by_name(folder):
    """The names of a folder's entries, ascending."""
    return sorted([entry.name for entry in list(folder.inside.values())])


def names_by_key(folder):
    """The names of a folder's entries, ascending by their keys."""
    return [folder.inside[key].name for key in sorted(folder.inside)]


def first_behind(folder, last):
    """The least key in a folder that is greater than a key, or the least of all for None, and its entry; or None."""
    key = min([key for key in folder.inside if last is None or key > last], default=None)
    return None if key is None else (key, folder.inside[key])


def copy_of(entry):
    """A copy of an entry with all that is in it."""
    if isinstance(entry, File):
        return File(entry.name, entry.content)
    if isinstance(entry, Link):
        return Link(entry.name, entry.goal)
    folder = Folder(entry.name, entry.table)
    folder.inside = {key: copy_of(entry.inside[key]) for key in entry.inside}
    return folder


def are_same(one, other):
    """Whether two entries, with all that is in them, have the same names, contents, targets and tables."""
    if one.name != other.name or kind_of(one) != kind_of(other) or worth_of(one) != worth_of(other):
        return False
    if not isinstance(one, Folder):
        return True
    # Names that are the same have the same key in both, so the keys tell which entries are compared.
    if one.table != other.table or len(one.inside) != len(other.inside):
        return False
    for key in one.inside:
        if key not in other.inside or not are_same(one.inside[key], other.inside[key]):
            return False
    return True

"""Trees of folders, each with its own table, which keep the first spelling of each name."""

from namesone.deeds import is_done
from namesone.entries import (
    File, Folder, Link, are_same, copy_of, entry_in, first_behind, give_table, kind_of, names_by_key, names_by_name,
    put_in, take_out, worth_of)
from namesone.errors import (
    Barred, Clash, Inside, Missing, NoDeed, NoFile, NoLink, NoNumber, NoPath, NoTable, Present)
from namesone.layouts import lay_item
from namesone.spellings import bar
from namesone.tables import Table, is_name, is_number
from namesone.trails import find, find_end, find_folder, find_holder, last_name, path_along, trails_below

MOST_NAMES = 6


def is_path(thing):
    """Whether any value is a path."""
    if not isinstance(thing, str):
        return False
    names = thing.split("/")
    return len(names) <= MOST_NAMES and all([is_name(name) for name in names])


def _check_path(thing):
    if not is_path(thing):
        raise NoPath(thing)


def _check_path_or_root(thing):
    if thing is not None:
        _check_path(thing)


def _check_number(thing):
    if not is_number(thing):
        raise NoNumber(thing)


def _check_table(thing):
    if not isinstance(thing, Table):
        raise NoTable(thing)


class Tree:
    """A root folder with all that is in it."""

    def __init__(self, table):
        _check_table(table)
        self._root = Folder("", table)

    def folder(self, path, *, table=None):
        """Adds a folder with a table, or with that of the folder that holds it."""
        _check_path(path)
        if table is not None:
            _check_table(table)
        holder = self._holder_for_new(path)
        put_in(holder, Folder(last_name(path), holder.table if table is None else table))

    def file(self, path, content=0):
        """Adds a file."""
        _check_path(path)
        _check_number(content)
        put_in(self._holder_for_new(path), File(last_name(path), content))

    def link(self, path, target):
        """Adds a link."""
        _check_path(path)
        _check_path(target)
        put_in(self._holder_for_new(path), Link(last_name(path), target))

    def write(self, path, content):
        """Replaces the content of the file that is the end of a path."""
        _check_path(path)
        _check_number(content)
        file = self._file_at(path)
        file.content = content

    def remove(self, path):
        """Removes an entry with all that is in it, a link itself."""
        _check_path(path)
        trail = self._trail_to(path)
        take_out(trail[-2], trail[-1])

    def move(self, path, other):
        """Moves an entry to where another path leads, under the last name of that path."""
        _check_path(path)
        _check_path(other)
        trail = self._trail_to(path)
        to_holder = self._trail_to_holder(other)
        entry = trail[-1]
        there = entry_in(to_holder[-1], last_name(other))
        if there is not None and there != entry:
            raise Present(other)
        if entry in to_holder:
            raise Inside(other)
        take_out(trail[-2], entry)
        entry.name = last_name(other)
        put_in(to_holder[-1], entry)

    def change(self, path, table):
        """Gives a folder, or the root for None, another table."""
        _check_path_or_root(path)
        _check_table(table)
        folder = self._folder_at(path)
        pair = bar(table, names_by_name(folder))
        if pair is not None:
            raise Barred(pair[0], pair[1])
        give_table(folder, table)

    def kind(self, path):
        """The kind of an entry: "folder", "file" or "link"."""
        _check_path(path)
        return kind_of(self._trail_to(path)[-1])

    def real_path(self, path):
        """The real path of an entry."""
        _check_path(path)
        return path_along(self._trail_to(path))

    def target(self, path):
        """The target of a link."""
        _check_path(path)
        entry = self._trail_to(path)[-1]
        if not isinstance(entry, Link):
            raise NoLink(path)
        return entry.goal

    def read(self, path):
        """The content of the file that is the end of a path."""
        _check_path(path)
        return self._file_at(path).content

    def end(self, path):
        """The real path of the end of a path, or None if there is none."""
        _check_path(path)
        trail = find_end(self._root, path)
        return None if trail is None else path_along(trail)

    def table_of(self, path=None):
        """The table of the folder that is the end of a path, or of the root."""
        _check_path_or_root(path)
        return self._folder_at(path).table

    def batch(self, deeds):
        """Does the deeds of a list, all or none."""
        if not isinstance(deeds, list):
            raise NoDeed(0)
        changed = self.copy()
        for at, deed in enumerate(deeds):
            if not is_done(changed, deed):
                raise NoDeed(at)
        self._root = changed._root

    def lay(self, archive):
        """Lays out an archive, all or none; the real paths of what its items found or added."""
        root = copy_of(self._root)
        paths = []
        for at, (path, content) in enumerate(archive):
            trail = lay_item(root, path, content)
            if trail is None:
                raise Clash(at)
            paths.append(path_along(trail))
        self._root = root
        return paths

    def walk(self):
        """Yields the real path, the kind and the value of each entry, ascending by the names of the real paths."""
        for trail in trails_below([self._root]):
            yield path_along(trail), kind_of(trail[-1]), worth_of(trail[-1])

    def names(self, path=None):
        """The names of a folder, or of the root, ascending by their keys."""
        _check_path_or_root(path)
        return names_by_key(self._folder_at(path))

    def next_name(self, last, path):
        """The next key in a folder, or the root for None, behind a key or None, and the name that has it; or None."""
        found = first_behind(self._folder_at(path), last)
        return None if found is None else (found[0], found[1].name)

    def copy(self):
        """Another tree that is the same."""
        tree = Tree(self._root.table)
        tree._root = copy_of(self._root)
        return tree

    def same(self, other):
        """Whether another tree has the same entries and tables."""
        return isinstance(other, Tree) and are_same(self._root, other._root)

    def __len__(self):
        return len(trails_below([self._root]))

    def __contains__(self, path):
        return is_path(path) and find(self._root, path) is not None

    def __repr__(self):
        return f"Tree({len(self)} entries)"

    def _trail_to(self, path):
        trail = find(self._root, path)
        if trail is None:
            raise Missing(path)
        return trail

    def _trail_to_holder(self, path):
        trail = find_holder(self._root, path)
        if trail is None:
            raise Missing(path)
        return trail

    def _holder_for_new(self, path):
        holder = self._trail_to_holder(path)[-1]
        if entry_in(holder, last_name(path)) is not None:
            raise Present(path)
        return holder

    def _folder_at(self, path):
        trail = find_folder(self._root, path)
        if trail is None:
            raise Missing(path)
        return trail[-1]

    def _file_at(self, path):
        """The file that is the end of a path."""
        self._trail_to(path)
        trail = find_end(self._root, path)
        if trail is None or not isinstance(trail[-1], File):
            raise NoFile(path)
        return trail[-1]

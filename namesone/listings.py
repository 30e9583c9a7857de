"""Listings, which go on while the tree changes."""

from namesone.errors import Stale


class Listing:
    """The names of a folder of a tree, given one at a time."""

    def __init__(self, tree, path=None):
        self._tree = tree
        self._path = path
        self._table = tree.table_of(path)
        self._last = None

    @classmethod
    def behind(cls, tree, key, path=None):
        """A listing that goes on behind a key."""
        listing = cls(tree, path)
        listing._last = key
        return listing

    @property
    def last(self):
        """The key of the last name given, or None."""
        return self._last

    def give(self):
        """The next name, or None if there is none."""
        # The path is followed anew, because another folder may stand there.
        if self._tree.table_of(self._path) != self._table:
            raise Stale(self._path)
        found = self._tree.next_name(self._last, self._path)
        if found is None:
            return None
        self._last, name = found
        return name

    def rest(self):
        """Yields the next names, each when it is taken."""
        while (name := self.give()) is not None:
            yield name

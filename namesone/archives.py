"""Archives: whether the order of their items matters."""

from namesone.errors import Clash


def parting_items(tree, archive):
    """The least pair of indexes of items that part in a tree, or None."""
    for at, item in enumerate(archive):
        if _with_items(tree, [item]) is None:
            raise Clash(at)
    for first in range(len(archive)):
        for second in range(first + 1, len(archive)):
            if _part(tree, archive[first], archive[second]):
                return (first, second)
    return None


def _part(tree, one, other):
    there = _with_items(tree, [one, other])
    back = _with_items(tree, [other, one])
    return there is None or back is None or not there.same(back)


def _with_items(tree, items):
    """A copy of a tree in which items are laid out, or None if they cannot be."""
    changed = tree.copy()
    try:
        changed.lay(items)
    except Clash:
        return None
    return changed

"""Following paths. A trail is the list of the entries from the root to an entry, through folders alone."""

from namesone.entries import Folder, Link, entry_in, names_by_name


def path_along(trail):
    """The real path of the last entry of a trail."""
    return "/".join([entry.name for entry in trail[1:]])


def last_name(path):
    """The last name of a path."""
    return path.rpartition("/")[2]


def find(root, path):
    """The trail of the entry that a path finds, or None."""
    return _find(root, path, {})[0]


def find_end(root, path):
    """The trail of the end of the entry that a path finds, or None."""
    trail, ends = _find(root, path, {})
    return _end(root, trail, ends)[0]


def find_folder(root, path):
    """The trail of the folder that is the end of a path, or of the root for None; None if there is none."""
    if path is None:
        return [root]
    trail = find_end(root, path)
    return trail if _leads_to_folder(trail) else None


def find_holder(root, path):
    """The trail of the folder in which the last name of a path is looked for, or None."""
    before = path.rpartition("/")[0]
    return find_folder(root, None if before == "" else before)


def _leads_to_folder(trail):
    return trail is not None and isinstance(trail[-1], Folder)


# The next two return a trail, or None, and beside it the ends of links that are known by then. Without these, a link
# whose target names links, whose targets name links, would follow the last of them far too often. They are handed on
# in new dicts, because the operator `in` of a tree changes nothing.


def _find(root, path, ends):
    trail = [root]
    for name in path.split("/"):
        trail, ends = _end(root, trail, ends)
        entry = entry_in(trail[-1], name) if _leads_to_folder(trail) else None
        if entry is None:
            return None, ends
        trail = [*trail, entry]
    return trail, ends


def _end(root, trail, ends):
    if trail is None or not isinstance(trail[-1], Link):
        return trail, ends
    link = trail[-1]
    if link not in ends:
        # While its end is looked for it has none: so it has none if its own end is needed for it.
        found, ends = _find(root, link.goal, {**ends, link: None})
        found, ends = _end(root, found, ends)
        ends = {**ends, link: found}
    return ends[link], ends


def trails_below(trail):
    """The trails of all entries in the folder of a trail, ascending by the names along them."""
    found = []
    folder = trail[-1]
    for name in names_by_name(folder):
        below = [*trail, entry_in(folder, name)]
        found.append(below)
        if isinstance(below[-1], Folder):
            found.extend(trails_below(below))
    return found

"""Laying out the items of an archive, without following links."""

from namesone.entries import File, Folder, entry_in, put_in


def lay_item(root, path, content):
    """Lays out an item; the trail of the entry that its last name found or added, or None if it cannot be done."""
    *names, last = path.split("/")
    trail = [root]
    for name in names:
        trail = _into_folder(trail, name)
        if trail is None:
            return None
    if content is None:
        return _into_folder(trail, last)
    return _onto_file(trail, last, content)


def _into_folder(trail, name):
    holder = trail[-1]
    entry = entry_in(holder, name)
    if entry is None:
        entry = Folder(name, holder.table)
        put_in(holder, entry)
    return [*trail, entry] if isinstance(entry, Folder) else None


def _onto_file(trail, name, content):
    holder = trail[-1]
    entry = entry_in(holder, name)
    if entry is None:
        entry = File(name, content)
        put_in(holder, entry)
    if not isinstance(entry, File):
        return None
    entry.content = content
    return [*trail, entry]

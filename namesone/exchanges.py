"""Single exchanges in words, and the ways that they make."""


def exchanges(table, word):
    """All strings that come from a word by a single exchange, ascending."""
    folds = table.folds
    found = _with_one_fold(folds, word) + _with_one_fold_back(folds, word)
    return sorted(set(found + _with_one_swap(table.marks, word)))


def _put(text, at, size, piece):
    """The text with a piece in the place of some of its signs."""
    return text[:at] + piece + text[at + size:]


def _with_one_fold(folds, text):
    return [_put(text, at, 1, folds[sign]) for at, sign in enumerate(text) if sign in folds]


def _with_one_fold_back(folds, text):
    found = []
    for sign in folds:
        word = folds[sign]
        # Every index is tried, because occurrences may overlap.
        for at in range(len(text)):
            if text[at:at + len(word)] == word:
                found.append(_put(text, at, len(word), sign))
    return found


def _with_one_swap(marks, text):
    return [_swapped(text, at) for at in range(len(text) - 1) if may_swap(marks, text[at], text[at + 1])]


def may_swap(marks, left, right):
    """Whether two neighbouring signs are marks that may change places."""
    return left in marks and right in marks and marks[left] != marks[right]


def _swapped(text, at):
    return _put(text, at, 2, text[at + 1] + text[at])


def find_way(table, one, other):
    """A way from a name to another one, or None if they are not one."""
    down = _way_to_key(table, one)
    up = _way_to_key(table, other)
    if down[-1] != up[-1]:
        return None
    # The ways may meet before the key; from there on they would go there and back.
    meeting = [text for text in down if text in up][0]
    return down[:down.index(meeting)] + up[:up.index(meeting) + 1][::-1]


def _way_to_key(table, word):
    folds = table.folds
    marks = table.marks
    way = [word]
    while (text := _nearer_to_key(folds, marks, way[-1])) is not None:
        way.append(text)
    return way


def _nearer_to_key(folds, marks, text):
    """The text one exchange nearer to its key, or None if it is its key."""
    for at, sign in enumerate(text):
        if sign in folds:
            return _put(text, at, 1, folds[sign])
    for at in range(len(text) - 1):
        # Only a falling pair is swapped, so that marks of one class never pass each other.
        if may_swap(marks, text[at], text[at + 1]) and marks[text[at]] > marks[text[at + 1]]:
            return _swapped(text, at)
    return None

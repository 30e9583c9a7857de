"""Tables compared for all words."""

from namesone.spellers import Speller
from namesone.spellings import groups


def is_finer(one, other):
    """Whether all words that are one for a table are one for another table."""
    # Words are one by exchanges, so it is enough to ask of each single exchange.
    return failing(one, other) == []


def are_alike(one, other):
    """Whether the same words are one for two tables."""
    return is_finer(one, other) and is_finer(other, one)


def failing(one, other):
    """The exchanges of a table that change the key of another table."""
    pairs = _fold_pairs(one.folds) + _mark_pairs(one.marks)
    return [(before, after) for before, after in pairs if other(before) != other(after)]


def _fold_pairs(folds):
    return [(sign, folds[sign]) for sign in sorted(folds)]


def _mark_pairs(marks):
    ordered = sorted(marks)
    return [(a + b, b + a) for a in ordered for b in ordered if a < b and marks[a] != marks[b]]


def parting(one, other):
    """The least pair of words that are one for a table and not for another table, or None."""
    if is_finer(one, other):
        return None
    # A failing exchange has at most four signs on both sides, so the least pair has no more. Its signs are among those
    # of the first table: at another one both words could be cut, and one of the pieces would be a lesser pair.
    signs = _signs_of(one)
    pair = _parting_of_one_size(one, other, signs)
    if pair is not None:
        return pair
    # Signs that are one for the first table are now one for the other, too: the first of them stands for the rest.
    firsts = [alike[0] for alike in groups(one, signs)]
    speller = Speller(one, firsts)
    for size in (2, 3):
        pair = _parting_from_sign(one, other, speller, firsts, size)
        if pair is not None:
            return pair
    # No fold fails now. A sign without marks could be cut off, and what is left would be a lesser pair.
    marked = [sign for sign in firsts if _has_marks(one, sign)]
    return _parting_of_one_size(one, other, [a + b for a in marked for b in marked])


def _signs_of(table):
    """All signs that stand in a table, ascending."""
    folds = table.folds
    return sorted(set("".join(list(folds) + list(folds.values()) + list(table.marks))))


def _has_marks(table, word):
    marks = table.marks
    return any([sign in marks for sign in table(word)])


def _parting_of_one_size(one, other, words):
    for alike in groups(one, words):
        # If any two of them part, the first one parts from one of the others.
        for word in alike[1:]:
            if other(alike[0]) != other(word):
                return (alike[0], word)
    return None


def _parting_from_sign(one, other, speller, signs, size):
    """The least parting pair of a sign and a word of so many signs, more than one."""
    for sign in signs:
        for word in speller.spelled(one(sign), size):
            if other(sign) != other(word):
                return (sign, word)
    return None

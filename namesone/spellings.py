"""The spellings of a name, and the names of a list that are one."""

from namesone.errors import TooMany
from namesone.spellers import Speller
from namesone.tables import LONGEST_WORD, SIGNS, in_order

MOST_SPELLINGS = 500


def count(table, name, size):
    """How many spellings of a name have exactly so many signs."""
    numbers = _numbers(Speller(table, SIGNS), table(name))
    if size < len(numbers):
        return numbers[size]
    return 0


def spellings(table, name, *, most=LONGEST_WORD):
    """The spellings of a name of at most so many signs, in the order of [4]."""
    speller = Speller(table, SIGNS)
    key = table(name)
    numbers = _numbers(speller, key)[:most + 1]
    if sum(numbers) > MOST_SPELLINGS:
        raise TooMany(MOST_SPELLINGS)
    sizes = [size for size, number in enumerate(numbers) if number > 0]
    return [word for size in sizes for word in speller.spelled(key, size)]


def shortest(table, name):
    """The first spelling of a name in the order of [4]."""
    speller = Speller(table, SIGNS)
    key = table(name)
    sizes = [size for size, number in enumerate(_numbers(speller, key)) if number > 0]
    return speller.least(key, sizes[0])


def _numbers(speller, key):
    # What is longer than a word is no spelling.
    return speller.tally(key)[:LONGEST_WORD + 1]


def groups(table, names):
    """The lists of those names that are one; a name that is one with no other makes a list of its own."""
    found = {}
    for name in in_order(names):
        found.setdefault(table(name), []).append(name)
    return list(found.values())


def bar(table, names):
    """The least pair of names that are one, or None."""
    for alike in groups(table, names):
        if len(alike) > 1:
            return (alike[0], alike[1])
    return None

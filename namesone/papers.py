"""Papers, which show that two names are one or where they part."""

from namesone.exchanges import exchanges, find_way
from namesone.tables import is_number

ONE = "one"
TWO = "two"


def paper(table, one, other):
    """A paper for two names."""
    way = find_way(table, one, other)
    if way is not None:
        return (ONE, way)
    return (TWO, _first_difference(table(one), table(other)))


def holds(table, one, other, thing):
    """Whether any value is a paper for two names that shows what it says."""
    if not isinstance(thing, tuple) or len(thing) != 2:
        return False
    said, shown = thing
    if said == ONE:
        return _is_way(table, one, other, shown)
    if said == TWO:
        return is_number(shown) and shown == _first_difference(table(one), table(other))
    return False


def _first_difference(one, other):
    """The first index at which two keys differ, or None if they are equal."""
    for at in range(max(len(one), len(other))):
        # Slices, because one of the keys may have ended.
        if one[at:at + 1] != other[at:at + 1]:
            return at
    return None


def _is_way(table, one, other, thing):
    if not isinstance(thing, list) or thing == []:
        return False
    if thing[0] != one or thing[-1] != other:
        return False
    for at in range(len(thing) - 1):
        # One step at a time: only what comes from a string by an exchange is known to be a string.
        if thing[at + 1] not in exchanges(table, thing[at]):
            return False
    return True

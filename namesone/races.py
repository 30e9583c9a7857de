"""Races: what two programs do in any order of their deeds."""

from namesone.deeds import is_done
from namesone.errors import NoOrder


def orders(one, other):
    """Yields all orders of two programs, ascending."""
    yield from _orders_of(len(one), len(other))


def _orders_of(zeros, ones):
    """All strings of so many 0 and so many 1, ascending."""
    if zeros == 0 or ones == 0:
        return ["0" * zeros + "1" * ones]
    return ["0" + rest for rest in _orders_of(zeros - 1, ones)] + ["1" + rest for rest in _orders_of(zeros, ones - 1)]


def race(tree, one, other, order):
    """The tree at the end of a race, and for each program the list of whether each of its deeds was done."""
    if not _is_order(one, other, order):
        raise NoOrder(order)
    ran = tree.copy()
    programs = [one, other]
    done = [[], []]
    for sign in order:
        which = int(sign)
        deed = programs[which][len(done[which])]
        done[which].append(is_done(ran, deed))
    return (ran, done[0], done[1])


def _is_order(one, other, thing):
    if not isinstance(thing, str) or len(thing) != len(one) + len(other):
        return False
    return thing.count("0") == len(one) and thing.count("1") == len(other)


def least_apart(tree, one, other):
    """The least order whose outcome is not that of the first order, or None."""
    first = race(tree, one, other, "0" * len(one) + "1" * len(other))
    for order in orders(one, other):
        if not _are_same(race(tree, one, other, order), first):
            return order
    return None


def _are_same(outcome, other):
    # The lists are asked first, because it takes longer to compare trees.
    return outcome[1:] == other[1:] and outcome[0].same(other[0])

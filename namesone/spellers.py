"""Counting and listing the words that have a key."""

from namesone.exchanges import may_swap
from namesone.tables import SIGNS


def _behind_sign(marks, rest, sign):
    """What is left of a key when a sign is taken from its front, or None if the sign cannot come there."""
    for at, other in enumerate(rest):
        if other == sign:
            return rest[:at] + rest[at + 1:]
        # A mark may stand behind others in the key that stood behind it in the word.
        if not may_swap(marks, other, sign):
            return None
    return None


def _behind(marks, rest, word):
    for sign in word:
        rest = _behind_sign(marks, rest, sign)
        if rest is None:
            return None
    return rest


class Speller:
    """Spells what is left of keys, for one table; it remembers what it has counted."""

    def __init__(self, table):
        folds = table.folds
        self._marks = table.marks
        self._words = {sign: folds.get(sign, sign) for sign in sorted(SIGNS)}
        self._known = {"": [1]}

    def tally(self, rest):
        """How many words spell a rest: a list, by the number of their signs."""
        if rest not in self._known:
            sums = [0] * (len(rest) + 1)
            for _, after in self._parts(rest):
                for size, number in enumerate(self.tally(after)):
                    sums[size + 1] += number
            self._known[rest] = sums
        return self._known[rest]

    def spelled(self, rest, size):
        """All words of so many signs that spell a rest, ascending."""
        if size == 0:
            return [""]
        steps = self._steps(rest, size)
        return [sign + word for sign, after in steps for word in self.spelled(after, size - 1)]

    def least(self, rest, size):
        """The first of the words of so many signs that spell a rest, if there is one."""
        if size == 0:
            return ""
        sign, after = self._steps(rest, size)[0]
        return sign + self.least(after, size - 1)

    def _parts(self, rest):
        """Each sign that a word for a rest may begin with, and what is left behind it, ascending."""
        parts = []
        for sign in self._words:
            after = _behind(self._marks, rest, self._words[sign])
            if after is not None:
                parts.append((sign, after))
        return parts

    def _steps(self, rest, size):
        """The parts that lead to words of so many signs."""
        return [(sign, after) for sign, after in self._parts(rest) if self._has(after, size - 1)]

    def _has(self, rest, size):
        numbers = self.tally(rest)
        return size < len(numbers) and numbers[size] > 0

"""Counting and listing the words that have a key."""

from namesone.exchanges import may_swap


def _behind_sign(marks, rest, sign):
    """What is left of a key when a sign is taken from its front, or None if the sign cannot come there."""
    for at, other in enumerate(rest):
        if other == sign:
            return rest[:at] + rest[at + 1:]
        # A mark may stand behind others in the key that stood behind it in the word.
        if not may_swap(marks, other, sign):
            return None
    return None


def _behind(marks, rest, word):
    for sign in word:
        rest = _behind_sign(marks, rest, sign)
        if rest is None:
            return None
    return rest


def _fronts(marks, rest):
    """The signs that can be taken from the front of a rest: the first one, and of a run of marks one for each class."""
    fronts = []
    classes = []
    for sign in rest:
        level = marks.get(sign)
        if fronts == [] or (level is not None and level not in classes):
            fronts.append(sign)
        if level is None:
            break
        classes.append(level)
    return fronts


class Speller:
    """Spells what is left of keys, for one table and with some signs; it remembers what it has found."""

    def __init__(self, table, signs):
        folds = table.folds
        self._marks = table.marks
        # The signs that have a word, and the words by their first signs: few words can stand at the front of a rest.
        self._signs = {}
        for sign in signs:
            self._signs.setdefault(folds.get(sign, sign), []).append(sign)
        self._words = {}
        for word in self._signs:
            self._words.setdefault(word[0], []).append(word)
        self._parts = {}
        self._tallies = {"": [1]}
        self._lists = {("", 0): [""]}

    def tally(self, rest):
        """How many words spell a rest: a list, by the number of their signs."""
        if rest not in self._tallies:
            sums = [0] * (len(rest) + 1)
            for signs, after in self._parts_of(rest):
                for size, number in enumerate(self.tally(after)):
                    sums[size + 1] += len(signs) * number
            self._tallies[rest] = sums
        return self._tallies[rest]

    def spelled(self, rest, size):
        """All words of so many signs that spell a rest, ascending."""
        place = (rest, size)
        if place not in self._lists:
            steps = self._steps(rest, size)
            self._lists[place] = [sign + word for sign, after in steps for word in self.spelled(after, size - 1)]
        return self._lists[place]

    def least(self, rest, size):
        """The first of the words of so many signs that spell a rest, if there is one."""
        if size == 0:
            return ""
        sign, after = self._steps(rest, size)[0]
        return sign + self.least(after, size - 1)

    def _parts_of(self, rest):
        """The signs that a word for a rest may begin with, those of one word together, and what is left behind them."""
        if rest not in self._parts:
            words = [word for front in _fronts(self._marks, rest) for word in self._words.get(front, [])]
            parts = [(self._signs[word], _behind(self._marks, rest, word)) for word in words]
            self._parts[rest] = [(signs, after) for signs, after in parts if after is not None]
        return self._parts[rest]

    def _steps(self, rest, size):
        """Each sign that a word of so many signs may begin with, and what is left behind it, ascending."""
        parts = [(signs, after) for signs, after in self._parts_of(rest) if self._has(after, size - 1)]
        return sorted([(sign, after) for signs, after in parts for sign in signs])

    def _has(self, rest, size):
        numbers = self.tally(rest)
        return size < len(numbers) and numbers[size] > 0

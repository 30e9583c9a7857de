"""Signs, words and names, and the tables that tell which words are one."""

from namesone.errors import NoFold, NoMark, NoSign, NoText, NoWord, TooMany

SIGNS = "abcdefghijklmnopqrstuvwxyzABCDEFGHIJKLMNOPQRSTUVWXYZ0123456789'-.:^_~"
LONGEST_WORD = 40
LONGEST_NAME = 12
LONGEST_FOLD = 3
MARK_CLASSES = (1, 2, 3)
WRITTEN_CLASSES = ("1", "2", "3")
MOST_FOLDS = 40
MOST_MARKS = 8


def is_sign(thing):
    """Whether any value is a sign."""
    # The length is asked first: "" and "ab" are in SIGNS too, as parts of it.
    return isinstance(thing, str) and len(thing) == 1 and thing in SIGNS


def is_word(thing):
    """Whether any value is a word."""
    return _is_word_up_to(thing, LONGEST_WORD)


def is_name(thing):
    """Whether any value is a name."""
    return _is_word_up_to(thing, LONGEST_NAME)


def _is_word_up_to(thing, most):
    if not isinstance(thing, str) or not 1 <= len(thing) <= most:
        return False
    return all([sign in SIGNS for sign in thing])


def _is_fold_word(thing):
    return _is_word_up_to(thing, LONGEST_FOLD)


def is_number(thing):
    """Whether any value is an integer."""
    # True is an int for Python, and it equals 1.
    return isinstance(thing, int) and not isinstance(thing, bool)


def in_order(words):
    """A new list of words in the order of [4]."""
    return sorted(words, key=lambda word: (len(word), word))


def _is_mark_class(thing):
    return is_number(thing) and thing in MARK_CLASSES


def _check_folds(folds):
    for key in sorted(folds):
        if not is_sign(key):
            raise NoSign(key)
        if not _is_fold_word(folds[key]):
            raise NoFold(key)
        if any([sign in folds for sign in folds[key]]):
            raise NoFold(key)


def _check_marks(marks, folds):
    for key in sorted(marks):
        if not is_sign(key):
            raise NoSign(key)
        if not _is_mark_class(marks[key]) or key in folds:
            raise NoMark(key)


def _check_sizes(folds, marks):
    if len(folds) > MOST_FOLDS:
        raise TooMany(MOST_FOLDS)
    if len(marks) > MOST_MARKS:
        raise TooMany(MOST_MARKS)


def _with_folds(folds, text):
    return "".join([folds.get(sign, sign) for sign in text])


def _with_marks_in_order(marks, text):
    if not any([sign in marks for sign in text]):
        return text
    done = ""
    run = ""
    for sign in text:
        if sign in marks:
            run = run + sign
        else:
            done = done + _run_in_order(marks, run) + sign
            run = ""
    return done + _run_in_order(marks, run)


def _run_in_order(marks, run):
    # Going through the run once for each class keeps the order within a class.
    return "".join([mark for level in MARK_CLASSES for mark in run if marks[mark] == level])


def key_of(table, word):
    """The key of what is known to be a word."""
    # The operator `in` of a tree needs keys, and an operator calls no object.
    return _with_marks_in_order(table._marks, _with_folds(table._folds, word))


def _items_of(text):
    # Splitting the empty text would give one empty item, but it has none.
    if text == "":
        return []
    return text.split(" ")


def _place_of(item):
    """Where an item of a text stands: by kind, then by sign; None if it is no item."""
    if not is_sign(item[:1]):
        return None
    if item[1:2] == "=" and _is_fold_word(item[2:]):
        return (0, item[0])
    if item[1:2] == ":" and item[2:] in WRITTEN_CLASSES:
        return (1, item[0])
    return None


def _check_items(items):
    last = (0, "")
    for at, item in enumerate(items):
        place = _place_of(item)
        if place is None or place <= last:
            raise NoText(at)
        last = place


class Table:
    """Folds and marks, which tell the key of each word."""

    def __init__(self, folds, marks):
        _check_folds(folds)
        _check_marks(marks, folds)
        _check_sizes(folds, marks)
        self._folds = dict(folds)
        self._marks = dict(marks)

    @classmethod
    def from_text(cls, text):
        """The table that a text writes."""
        if not isinstance(text, str):
            raise NoText(-1)
        items = _items_of(text)
        _check_items(items)
        folds = {item[0]: item[2:] for item in items if item[1] == "="}
        marks = {item[0]: int(item[2:]) for item in items if item[1] == ":"}
        return cls(folds, marks)

    @property
    def folds(self):
        """A new dict from signs to their words."""
        return dict(self._folds)

    @property
    def marks(self):
        """A new dict from marks to their classes."""
        return dict(self._marks)

    def __call__(self, word):
        """The key of a word."""
        if not is_word(word):
            raise NoWord(word)
        return key_of(self, word)

    def __eq__(self, other):
        return isinstance(other, Table) and self._folds == other._folds and self._marks == other._marks

    def __len__(self):
        return len([*self._folds, *self._marks])

    def __str__(self):
        folds = [f"{sign}={self._folds[sign]}" for sign in sorted(self._folds)]
        marks = [f"{sign}:{self._marks[sign]}" for sign in sorted(self._marks)]
        return " ".join([*folds, *marks])

    def __repr__(self):
        return f"Table({len(self._folds):02d} folds, {len(self._marks)} marks)"

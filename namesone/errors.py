"""The errors of the package; the fields of each are its arguments."""


class NoSign(ValueError):
    """A key of a table's folds or marks is not a sign."""

    def __init__(self, sign):
        self.sign = sign


class NoFold(ValueError):
    """A sign's word cannot stand in the folds of a table."""

    def __init__(self, sign):
        self.sign = sign


class NoMark(ValueError):
    """A sign cannot be a mark of a table, or not with its class."""

    def __init__(self, sign):
        self.sign = sign


class NoWord(ValueError):
    """A value is not a word."""

    def __init__(self, word):
        self.word = word


class NoPath(ValueError):
    """A value is not a path."""

    def __init__(self, path):
        self.path = path


class NoDeed(ValueError):
    """The item at an index is not a deed, or cannot be done."""

    def __init__(self, at):
        self.at = at


class NoText(ValueError):
    """A value is not the text of a table, because of the item at an index."""

    def __init__(self, index):
        self.index = index


class NoCommand(ValueError):
    """A value is not a command of the desk."""


class NoTable(TypeError):
    """A value is not a table."""

    def __init__(self, given):
        self.given = given


class NoNumber(TypeError):
    """A value is not an integer."""

    def __init__(self, number):
        self.number = number


class Missing(KeyError):
    """A path does not find what it should find."""

    def __init__(self, path):
        self.path = path


class Unknown(KeyError):
    """No table is kept under a name."""

    def __init__(self, name):
        self.name = name


class Present(LookupError):
    """A path finds an entry where none should be."""

    def __init__(self, path):
        self.path = path


class NoOrder(IndexError):
    """A value is not an order of two programs."""

    def __init__(self, order):
        self.order = order


class TooMany(OverflowError):
    """There are more than a limit allows."""

    def __init__(self, limit):
        self.limit = limit


class Barred(RuntimeError):
    """Two names of a folder would become one."""

    def __init__(self, first, second):
        self.first = first
        self.second = second


class Inside(RuntimeError):
    """An entry cannot be moved into itself."""

    def __init__(self, path):
        self.path = path


class NoLink(RuntimeError):
    """The entry at a path is not a link."""

    def __init__(self, path):
        self.path = path


class NoFile(RuntimeError):
    """The end of a path is not a file."""

    def __init__(self, path):
        self.path = path


class Clash(RuntimeError):
    """The item at an index cannot be laid out."""

    def __init__(self, at):
        self.at = at


class Stale(RuntimeError):
    """The table of a listed folder is another one now."""

    def __init__(self, path):
        self.path = path

"""The errors of the package. One that is told a value keeps it in the attribute of that name."""


class MendError(ValueError):
    """A value that is not what it should be."""


class InvalidName(MendError):
    """No name."""


class InvalidForm(MendError):
    """No form."""


class InvalidScheme(MendError):
    """No scheme."""


class InvalidPicture(MendError):
    """No picture, or one that does not fit here."""


class InvalidDrawing(MendError):
    """No drawing."""


class InvalidBook(MendError):
    """No book."""


class InvalidShape(MendError):
    """No shape, or one that does not fit here."""


class InvalidPaper(MendError):
    """No paper."""


class InvalidOperation(MendError):
    """An argument with which nothing can be done here."""


class ParseError(MendError):
    """A text that cannot be read: the index of the first bad line, or None."""

    def __init__(self, number):
        self.number = number


class UnknownName(KeyError):
    """A name that stands for nothing here."""

    def __init__(self, name):
        self.name = name


class AbsentKey(KeyError):
    """A key that is not there."""

    def __init__(self, key):
        self.key = key


class UnknownPath(LookupError):
    """A path that leads to nothing."""

    def __init__(self, path):
        self.path = path


class NoMend(LookupError):
    """The place at which no drawing fits."""

    def __init__(self, where):
        self.where = where


class InvalidNumber(IndexError):
    """A number outside of its limits, or no number at all."""

    def __init__(self, value):
        self.value = value


class NothingToUndo(RuntimeError):
    """So many changes cannot be taken back, or done again."""

    def __init__(self, many):
        self.many = many


class TooMany(OverflowError):
    """More than the limit."""

    def __init__(self, limit):
        self.limit = limit


class Refused(ArithmeticError):
    """The pledge that would not hold."""

    def __init__(self, pledge):
        self.pledge = pledge

"""The errors of the program; `value` is what the error is about."""


class BookError(ValueError):
    """What every error of the program is."""


class InvalidBook(BookError):
    """A chapter has less than one line; the value is its index."""

    def __init__(self, value):
        self.value = value


class InvalidSize(BookError):
    """A page has less than one line; the value is its size."""

    def __init__(self, value):
        self.value = value


class InvalidTable(BookError):
    """No book fits a table; the value is a size."""

    def __init__(self, value):
        self.value = value


class InvalidChain(BookError):
    """A size of a chain is wrong; the value is the index of its tuple."""

    def __init__(self, value):
        self.value = value


class InvalidNumber(BookError):
    """A number is out of its range; the value is this number."""

    def __init__(self, value):
        self.value = value


class NothingToUndo(BookError):
    """No change is left to be taken back; the value is 0."""

    def __init__(self, value):
        self.value = value


class Unreadable(BookError):
    """No book has a text; the value is this text."""

    def __init__(self, value):
        self.value = value

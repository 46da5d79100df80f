"""The checks that several functions make of their arguments."""

from pagecounts.errors import InvalidBook, InvalidNumber, InvalidSize


def check_book(book):
    for index, length in enumerate(book):
        if length < 1:
            raise InvalidBook(index)


def check_size(size):
    if size < 1:
        raise InvalidSize(size)


def check_number(number, least, greatest):
    if number < least or number > greatest:
        raise InvalidNumber(number)

"""The checks that several functions make of their arguments."""

from pagecounts.errors import InvalidBook, InvalidChain, InvalidNumber, InvalidSize


def check_book(book):
    for index, length in enumerate(book):
        if length < 1:
            raise InvalidBook(index)


def check_size(size):
    if size < 1:
        raise InvalidSize(size)


def check_number(number, least, greatest):
    if number < least or number > greatest:
        raise InvalidNumber(number)


def check_not_negative(number):
    if number < 0:
        raise InvalidNumber(number)


def check_chain(chain):
    before = 0
    for index, (size, _) in enumerate(chain):
        if size <= before or (before > 0 and size % before != 0):
            raise InvalidChain(index)
        before = size

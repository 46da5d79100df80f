"""Books read from texts."""

from pagecounts.errors import Unreadable

MOST_DIGITS = 40


def read_book(text):
    """Return the book of a text."""
    if text == "empty":
        return []
    found = []
    before = 0
    for part in text.split(" + "):
        many, length = read_chapters(part)
        # Neighbours of equal length are written once.
        if many == 0 or length == 0 or length == before:
            raise Unreadable(text)
        found.append((many, length))
        before = length
    # The book is made at the end, because numbers of chapters in a text that is not readable may be far too great.
    book = []
    for many, length in found:
        book.extend([length] * many)
    return book


def read_chapters(part):
    """Return how many chapters a part of a text tells of, and their length; 0 for what is not readable."""
    ahead, sign, behind = part.partition("x")
    if sign == "":
        return (1, read_number(part))
    many = read_number(ahead)
    # One chapter is written without its number.
    if many == 1:
        return (0, 0)
    return (many, read_number(behind))


def read_number(word):
    """Return the number that a word writes, or 0 if it writes none from 1 on."""
    if not (word.isascii() and word.isdigit()) or word[0] == "0" or len(word) > MOST_DIGITS:
        return 0
    return int(word)

"""Tables of page counts, and the books that fit them."""

from math import factorial

from pagecounts.books import count_pages
from pagecounts.errors import InvalidTable


def lengths_of(table):
    """Return the lengths of the books that fit a table, in descending order."""
    if not table:
        return []
    # At the last size every chapter has one page.
    chapters = table[-1]
    if chapters < 0:
        raise InvalidTable(len(table))
    lengths = []
    for size in range(len(table) - 1, 0, -1):
        # The chapters that are longer than size + 1 are known; of the others, those of size + 1 lines
        # have two pages of this size, and those that are shorter have one.
        others = chapters - len(lengths)
        found = table[size - 1] - count_pages(lengths, size) - others
        if found < 0 or found > others:
            raise InvalidTable(size)
        lengths.extend([size + 1] * found)
    lengths.extend([1] * (chapters - len(lengths)))
    return lengths


def count_books(table):
    """Return the number of books that fit a table."""
    lengths = lengths_of(table)
    # Exchanging chapters of equal length makes no other book.
    orders = factorial(len(lengths))
    for length in sorted(set(lengths)):
        orders = orders // factorial(lengths.count(length))
    return orders

"""Sizes of editions with given numbers of pages, and sums over ranges of sizes."""

from math import isqrt

from pagecounts.books import count_pages
from pagecounts.checks import check_book, check_size
from pagecounts.errors import InvalidNumber


def least_size(book, most):
    """Return the least size of an edition with at most this number of pages."""
    check_book(book)
    if most < len(book):
        raise InvalidNumber(most)
    return search_size(book, most)


def sizes_with(book, number):
    """Return the least and the greatest size with this number of pages, or None."""
    check_book(book)
    if number < len(book):
        return None
    least = search_size(book, number)
    if count_pages(book, least) != number:
        return None
    if number == len(book):
        return (least, None)
    return (least, search_size(book, number - 1) - 1)


def total_pages(book, first, last):
    """Return the sum of the page counts of a range of sizes."""
    check_book(book)
    check_size(first)
    check_size(last)
    if first > last:
        return 0
    # A chapter has one page, and one more for each full page of its other lines.
    full = sum([sum_quotients(length - 1, first, last) for length in book])
    return full + len(book) * (last - first + 1)


def search_size(book, most):
    """Return the least size with at most this number of pages, which is not below the chapters."""
    low = 1
    high = max(book, default=1)
    while low < high:
        middle = (low + high) // 2
        if count_pages(book, middle) <= most:
            high = middle
        else:
            low = middle + 1
    return low


def sum_quotients(lines, first, last):
    """Return the sum of lines // size over the sizes from first to last."""
    # Up to the root there are few sizes, and behind it few quotients.
    root = isqrt(lines)
    near = sum_by_size(lines, first, min(last, root))
    low = max(first, root + 1)
    if last - low < lines // low:
        return near + sum_by_size(lines, low, last)
    return near + sum_by_quotient(lines, low, last)


def sum_by_size(lines, first, last):
    """Return the same sum, in as many steps as there are sizes."""
    return sum([lines // size for size in range(first, last + 1)])


def sum_by_quotient(lines, first, last):
    """Return the same sum, in as many steps as the greatest quotient says."""
    # The sizes with a quotient of at least q are those up to lines // q.
    quotients = range(1, lines // first + 1)
    return sum([min(last, lines // quotient) - first + 1 for quotient in quotients])

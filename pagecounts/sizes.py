"""Sizes of editions with given numbers of pages, and sums of page counts over ranges of sizes."""

from pagecounts.books import count_pages
from pagecounts.checks import check_book, check_size
from pagecounts.errors import InvalidNumber
from pagecounts.quotients import sum_quotients


def least_size(book, most):
    """Return the least size of an edition with at most this number of pages."""
    check_book(book)
    if most < len(book):
        raise InvalidNumber(most)
    return search_size(book, most)


def sizes_with(book, number):
    """Return the least and the greatest size with this number of pages, or None."""
    check_book(book)
    if number < len(book):
        return None
    least = search_size(book, number)
    if count_pages(book, least) != number:
        return None
    if number == len(book):
        return (least, None)
    return (least, search_size(book, number - 1) - 1)


def total_pages(book, first, last):
    """Return the sum of the page counts of a range of sizes."""
    check_book(book)
    check_size(first)
    check_size(last)
    if first > last:
        return 0
    # A chapter has one page, and one more for each full page of its other lines.
    return len(book) * (last - first + 1) + sum_quotients([length - 1 for length in book], first, last)


def search_size(book, most):
    """Return the least size with at most this number of pages, which is not below the chapters."""
    low = 1
    high = max(book, default=1)
    while low < high:
        middle = (low + high) // 2
        if count_pages(book, middle) <= most:
            high = middle
        else:
            low = middle + 1
    return low

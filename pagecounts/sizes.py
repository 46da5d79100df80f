"""Sizes of editions with given numbers of pages, and sums over ranges of sizes."""

from math import isqrt

from pagecounts.books import count_pages
from pagecounts.checks import check_book, check_size
from pagecounts.errors import InvalidNumber


def least_size(book, most):
    """Return the least size of an edition with at most this number of pages."""
    check_book(book)
    if most < len(book):
        raise InvalidNumber(most)
    return search_size(book, most)


def sizes_with(book, number):
    """Return the least and the greatest size with this number of pages, or None."""
    check_book(book)
    if number < len(book):
        return None
    least = search_size(book, number)
    if count_pages(book, least) != number:
        return None
    if number == len(book):
        return (least, None)
    return (least, search_size(book, number - 1) - 1)


def total_pages(book, first, last):
    """Return the sum of the page counts of a range of sizes."""
    check_book(book)
    check_size(first)
    check_size(last)
    if first > last:
        return 0
    # A chapter has one page, and one more for each full page of its other lines.
    total = len(book) * (last - first + 1)
    # Long chapters take time, so that equal ones are summed up once.
    for length in sorted(set(book)):
        total = total + book.count(length) * sum_quotients(length - 1, first, last)
    return total


def search_size(book, most):
    """Return the least size with at most this number of pages, which is not below the chapters."""
    low = 1
    high = max(book, default=1)
    while low < high:
        middle = (low + high) // 2
        if count_pages(book, middle) <= most:
            high = middle
        else:
            low = middle + 1
    return low


def sum_quotients(lines, first, last):
    """Return the sum of lines // size over the sizes from first to last."""
    # There are few sizes up to the root of the lines, and few quotients for the sizes beyond it.
    root = isqrt(lines)
    if last <= root:
        return sum_by_size(lines, first, last)
    if first <= root:
        return sum_across_root(lines, first, last, root)
    return sum_by_quotient(lines, first, last)


def sum_by_size(lines, first, last):
    """Return the same sum, in as many steps as there are sizes."""
    return sum([lines // size for size in range(first, last + 1)])


def sum_by_quotient(lines, first, last):
    """Return the same sum, in as many steps as there are quotients."""
    # Each quotient counts once for each size that reaches it: up to the least one, these are all sizes;
    # then, those from the first one to lines // quotient.
    least = lines // (last + 1)
    greatest = lines // first
    return least * last + sum_by_size(lines, least + 1, greatest) - greatest * (first - 1)


def sum_across_root(lines, first, last, root):
    """Return the same sum if the first size is not beyond the root, but the last one is."""
    # The sizes up to the root and the quotients of the sizes beyond it are mostly the same numbers,
    # so that the divisions by these are made only once.
    least = lines // (last + 1)
    low = min(first, least + 1)
    high = max(first, least + 1)
    common = sum_by_size(lines, high, root)
    return sum_by_size(lines, low, high - 1) + 2 * common + least * last - root * root

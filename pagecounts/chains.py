"""Numbers of chapters and lines, chains of page counts, and the books that fit them.

The pages of a chapter at one size of a chain tell its pages at the next size, which is a multiple.
The other way, the number of ways to fill the larger pages with the smaller ones depends only on how
many of both there are in all, not on how the chapters share the larger ones. So the numbers of ways
are multiplied, size by size. The lines count as the pages of size 1.
"""

from math import comb

from pagecounts.books import chapter_pages
from pagecounts.checks import check_chain, check_not_negative
from pagecounts.errors import InvalidNumber


def count_fitting(chapters, lines, chain):
    """Return the number of books with so many chapters and lines that fit a chain."""
    check_demands(chapters, lines, chain)
    return multiply_ways(chapters, lines, chain)


def contradiction(chapters, lines, chain):
    """Return None if some book fits, otherwise the indexes of the tuples where it fails first."""
    check_demands(chapters, lines, chain)
    if count_sums(chapters, lines) == 0:
        return (-1, -1)
    ways = list_ways(chapters, lines, chain)
    for index, (_, many) in enumerate(chain):
        if ways[index] == 0 or count_sums(chapters, many) == 0:
            return (index - 1, index)
    return None


def nth_fitting(chapters, lines, chain, number):
    """Return the book with a number, from 0 on, of all books that fit, in the order of lists."""
    check_demands(chapters, lines, chain)
    if number < 0 or number >= multiply_ways(chapters, lines, chain):
        raise InvalidNumber(number)
    book = []
    for left in range(chapters - 1, -1, -1):
        length, before = find_length(left, lines, chain, number)
        book.append(length)
        lines = lines - length
        chain = shorten_chain(chain, length)
        number = number - before
    return book


def check_demands(chapters, lines, chain):
    check_not_negative(chapters)
    check_not_negative(lines)
    check_chain(chain)


def multiply_ways(chapters, lines, chain):
    """Return the number of fitting books for arguments that are checked."""
    fewest = lines
    if chain:
        fewest = chain[-1][1]
    books = count_sums(chapters, fewest)
    for ways in list_ways(chapters, lines, chain):
        books = books * ways
    return books


def list_ways(chapters, lines, chain):
    """Return for each tuple how many ways there are to fill its pages with those of the size before."""
    found = []
    size = 1
    many = lines
    for larger, fewer in chain:
        found.append(count_fillings(chapters, larger // size, many, fewer))
        size = larger
        many = fewer
    return found


def count_fillings(chapters, ratio, many, fewer):
    """Return the ways to fill larger pages with `many` smaller ones, at most `ratio` on each of them."""
    # All pages but the last ones of the chapters are full.
    return count_bounded(chapters, ratio, many - ratio * (fewer - chapters))


def count_bounded(terms, most, total):
    """Return how many lists of so many numbers from 1 to `most` have this sum."""
    # There are as many lists with the mirrored sum. The smaller sum takes fewer steps, and none if it is out of reach.
    total = min(total, terms * (most + 1) - total)
    found = 0
    sign = 1
    # Lists are taken away for each number beyond `most`, and given back where that was too often.
    for chosen in range((total - terms) // most + 1):
        found = found + sign * comb(terms, chosen) * count_sums(terms, total - chosen * most)
        sign = -sign
    return found


def count_sums(terms, total):
    """Return how many lists of so many numbers from 1 on have this sum."""
    if total < terms:
        return 0
    if terms == 0:
        return 1 if total == 0 else 0
    return comb(total - 1, terms - 1)


def find_length(left, lines, chain, number):
    """Return the length of the chapter before `left` other ones, and how many books have a shorter one there."""
    before = 0
    length = 1
    ways = multiply_ways(left, lines - length, shorten_chain(chain, length))
    while before + ways <= number:
        before = before + ways
        length = length + 1
        ways = multiply_ways(left, lines - length, shorten_chain(chain, length))
    return (length, before)


def shorten_chain(chain, length):
    """Return the chain that the other chapters fit if one chapter has this length."""
    return [(size, many - chapter_pages(length, size)) for size, many in chain]

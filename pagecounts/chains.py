"""Numbers of chapters and lines, chains of page counts, and the books that fit them.

A chapter of n lines has (n - 1) // size + 1 pages. Write n - 1 with digits, as clocks write seconds, minutes and hours:
one place for the single lines, and one for each size of the chain, whose digit counts the pages of this size that do
not make up a page of the next one. A digit is below the ratio of the two sizes; only those of the last size have no
limit. Then the numbers of lines and pages tell the sum of the digits of all chapters at each place, and nothing else.
So the digits at one place are chosen whatever stands at the others, and the numbers of choices are multiplied.
"""

from math import comb

from pagecounts.checks import check_chain, check_not_negative
from pagecounts.errors import InvalidNumber


def count_fitting(chapters, lines, chain):
    """Return the number of books with so many chapters and lines that fit a chain."""
    check_demands(chapters, lines, chain)
    return multiply_ways(chapters, list_places(chapters, lines, chain))


def contradiction(chapters, lines, chain):
    """Return None if some book fits, otherwise the indexes of the tuples where it fails first."""
    check_demands(chapters, lines, chain)
    if not has_book(chapters, lines):
        return (-1, -1)
    places = list_places(chapters, lines, chain)
    for index, (_, many) in enumerate(chain):
        _, limit, total = places[index]
        if not (0 <= total <= chapters * (limit - 1)) or not has_book(chapters, many):
            return (index - 1, index)
    return None


def nth_fitting(chapters, lines, chain, number):
    """Return the book with a number, from 0 on, of all books that fit, in the order of lists."""
    check_demands(chapters, lines, chain)
    places = list_places(chapters, lines, chain)
    books = multiply_ways(chapters, places)
    if number < 0 or number >= books:
        raise InvalidNumber(number)
    if chapters == 0:
        return []
    book = list_lengths(chapters, places, number, books)
    book.append(lines - sum(book))
    return book


def check_demands(chapters, lines, chain):
    check_not_negative(chapters)
    check_not_negative(lines)
    check_chain(chain)


def has_book(chapters, many):
    """Return whether so many lines, or pages of some size, can be shared by so many chapters."""
    return many == chapters or many > chapters > 0


def list_places(chapters, lines, chain):
    """Return for each place its size, the limit that its digits are below, and the sum of its digits."""
    places = []
    size = 1
    rest = lines - chapters
    for larger, many in chain:
        limit = larger // size
        places.append((size, limit, rest - limit * (many - chapters)))
        size = larger
        rest = many - chapters
    # No digit is greater than the sum of all.
    places.append((size, rest + 1, rest))
    return places


def multiply_ways(chapters, places):
    """Return the number of books with these places, which are filled whatever stands at the others."""
    books = 1
    for _, limit, total in places:
        books = books * count_lists(chapters, limit, total)
    return books


def count_lists(terms, limit, total):
    """Return how many lists of so many digits below a limit have this sum."""
    if total == 0:
        return 1
    # As many lists have the mirrored sum. The smaller one takes fewer steps, and is negative if no list has it.
    total = min(total, terms * (limit - 1) - total)
    if total < 0:
        return 0
    found = comb(total + terms - 1, terms - 1)
    sign = -1
    # Lists are taken away for each digit that reaches the limit, and given back where that was too often.
    for chosen in range(1, total // limit + 1):
        found = found + sign * comb(terms, chosen) * comb(total - chosen * limit + terms - 1, terms - 1)
        sign = -sign
    return found


def list_lengths(chapters, places, number, books):
    """Return the lengths of all chapters but the last one of the book with a number."""
    # Great sizes decide first which book is less; where the sum is 0, all digits are.
    places = [place for place in places[::-1] if place[2] > 0]
    lengths = []
    for left in range(chapters - 1, 0, -1):
        length = 1
        others = []
        for size, limit, total in places:
            digit, number, books = find_digit(left, limit, total, number, books)
            length = length + digit * size
            if digit < total:
                others.append((size, limit, total - digit))
        places = others
        lengths.append(length)
    return lengths


def find_digit(left, limit, total, number, books):
    """Return the digit of a chapter at a place, the book's number among those with this digit, and how many they are.

    So far the book has `number` among `books`. `total` is the sum of this digit and those of the `left` chapters behind
    it. Each digit has a known share of the books, because nothing that is open at the other places depends on it.
    """
    if total < limit:
        return find_free_digit(left, total, number, books)
    if limit == 2:
        return find_small_digit(left, total, number, books)
    digit = max(0, total - left * (limit - 1))
    everything = count_lists(left + 1, limit, total)
    share = books * count_lists(left, limit, total - digit) // everything
    while number >= share:
        number = number - share
        digit = digit + 1
        share = books * count_lists(left, limit, total - digit) // everything
    return (digit, number, share)


def find_free_digit(left, total, number, books):
    """Return the same for a sum that is below the limit."""
    digit = 0
    share = books * left // (total + left)
    while number >= share:
        # The digit is greater. If one is taken away from it and from the sum, the rest is found in the same way.
        number = number - share
        books = books - share
        digit = digit + 1
        total = total - 1
        share = books * left // (total + left)
    return (digit, number, share)


def find_small_digit(left, total, number, books):
    """Return the same for digits 0 and 1."""
    share = books * (left + 1 - total) // (left + 1)
    if number < share:
        return (0, number, share)
    return (1, number - share, books - share)

"""Editions of a book: page counts, and what stands on which page."""

from pagecounts.checks import check_book, check_not_negative, check_number, check_size


def pages(book, size):
    """Return the page count of the edition with this size."""
    check_book(book)
    check_size(size)
    return count_pages(book, size)


def page_of(book, size, chapter, line):
    """Return the page on which a line of a chapter stands."""
    check_book(book)
    check_size(size)
    check_number(chapter, 1, len(book))
    check_number(line, 1, book[chapter - 1])
    return count_pages(book[:chapter - 1], size) + chapter_pages(line, size)


def lines_on(book, size, page):
    """Return (chapter, first line, last line) for a page."""
    check_book(book)
    check_size(size)
    check_number(page, 1, count_pages(book, size))
    chapter, before = find_chapter(book, size, page)
    first = (page - before - 1) * size + 1
    last = min(first + size - 1, book[chapter - 1])
    return (chapter, first, last)


def counts(book, limit):
    """Yield the page counts of the sizes from 1 to a limit."""
    check_book(book)
    check_not_negative(limit)
    for size in range(1, limit + 1):
        yield count_pages(book, size)


def count_pages(book, size):
    """Return the page count of a book and a size that are checked."""
    # Each chapter has one page, and one more for each full page of its other lines.
    return len(book) + sum([(length - 1) // size for length in book])


def chapter_pages(length, size):
    """Return how many pages the first lines of a chapter take."""
    return (length + size - 1) // size


def find_chapter(book, size, page):
    """Return the chapter of a page that exists, and the number of pages before this chapter."""
    chapter = 1
    before = 0
    after = chapter_pages(book[0], size)
    while after < page:
        before = after
        after = before + chapter_pages(book[chapter], size)
        chapter = chapter + 1
    return (chapter, before)

"""Books that change, and whose changes can be taken back."""

from pagecounts.books import chapter_pages
from pagecounts.checks import check_book, check_number, check_size
from pagecounts.errors import NothingToUndo
from pagecounts.tables import lengths_of

GREATEST_TOLD = 100


class LiveBook:
    """A book that changes; equal to others with the same page counts in all editions."""

    def __init__(self, book):
        check_book(book)
        # Each change makes a new list, so that the lists of the past can be kept as they are.
        self._lengths = list(book)
        self._past = []

    def __eq__(self, other):
        if not isinstance(other, LiveBook):
            return False
        # All page counts together tell the lengths, but not their order.
        return sorted(self._lengths) == sorted(other._lengths)

    @property
    def book(self):
        """The lengths of the present chapters, in a new list."""
        return list(self._lengths)

    @property
    def chapters(self):
        """The number of the present chapters."""
        return len(self._lengths)

    @property
    def lines(self):
        """The number of lines in all."""
        return sum(self._lengths)

    def add(self, *lengths):
        """Add chapters at the end."""
        check_book(lengths)
        self._change_to(self._lengths + list(lengths))

    def split(self, chapter, line):
        """Split a chapter behind a line; return the sizes up to 100 with more pages afterwards."""
        check_number(chapter, 1, len(self._lengths))
        length = self._lengths[chapter - 1]
        check_number(line, 1, length - 1)
        parts = [line, length - line]
        self._change_to(self._lengths[:chapter - 1] + parts + self._lengths[chapter:])
        return list_parting(line, length - line)

    def join(self, chapter):
        """Join a chapter with the next one; return the sizes up to 100 with less pages afterwards."""
        check_number(chapter, 1, len(self._lengths) - 1)
        first = self._lengths[chapter - 1]
        second = self._lengths[chapter]
        self._change_to(self._lengths[:chapter - 1] + [first + second] + self._lengths[chapter + 1:])
        return list_parting(first, second)

    def undo(self):
        """Take back the last change that is not taken back yet."""
        if not self._past:
            raise NothingToUndo(0)
        self._lengths = self._past.pop()

    def titles(self, size):
        """Yield the number of the first page of each chapter."""
        check_size(size)
        page = 1
        for length in self._lengths:
            yield page
            page = page + chapter_pages(length, size)

    @classmethod
    def from_table(cls, table):
        """Return an object for the book with the lengths of a table, in descending order."""
        return cls(lengths_of(table))

    def _change_to(self, lengths):
        self._past.append(self._lengths)
        self._lengths = lengths


def list_parting(first, second):
    """Return the sizes up to 100 for which two chapters have more pages than one with the lines of both."""
    # They have if what stands on their last pages would fit on one page.
    sizes = range(1, GREATEST_TOLD + 1)
    return [size for size in sizes if (first - 1) % size + 1 + (second - 1) % size + 1 <= size]

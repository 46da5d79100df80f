"""A hidden book, and how its lengths are found by questions."""

from pagecounts.books import count_pages
from pagecounts.checks import check_book, check_size


class HiddenBook:
    """A book that tells nothing but its page counts."""

    def __init__(self, book):
        check_book(book)
        self._lengths = list(book)
        self._asked = 0

    def ask(self, size):
        """Return the page count of the edition with this size."""
        check_size(size)
        answer = count_pages(self._lengths, size)
        self._asked = self._asked + 1
        return answer

    @property
    def questions(self):
        """How many times `ask` has returned."""
        return self._asked


def find(hidden, longest):
    """Return the lengths of a hidden book, none above `longest`, in descending order."""
    # At this size every chapter has one page.
    chapters = hidden.ask(longest)
    lengths = []
    most = longest
    while len(lengths) < chapters:
        length, many = find_next(hidden, lengths, chapters - len(lengths), most)
        lengths.extend([length] * many)
        most = length - 1
    return lengths


def find_next(hidden, lengths, others, most):
    """Return the greatest length of the other chapters, which have at most `most` lines, and how often it occurs."""
    low = 0
    many = others
    while most - low > 1:
        middle = (low + most) // 2
        # The other chapters have one page each, unless one is longer than the page.
        more = hidden.ask(middle) - count_pages(lengths, middle) - others
        if more > 0:
            low = middle
            many = more
        else:
            most = middle
    # Pages of one line less were asked for, if there are such pages: each chapter of the greatest length had one more.
    return (most, many)

import unittest

from cases import ProgramCase
from pagecounts.books import pages
from pagecounts.errors import InvalidBook
from pagecounts.parting import parting_size, same_counts
from samples import GREAT, WRONG_BOOKS, slow_counts, small_books

# Books with chapters of at most 5 lines do not differ first at a size beyond these.
SIZES = range(1, 9)


def slow_parting(first, second):
    """Return the same size by the page counts of all small editions."""
    counts = zip(SIZES, slow_counts(first, SIZES), slow_counts(second, SIZES))
    differing = [size for size, one, other in counts if one != other]
    if not differing or differing[-1] == SIZES[-1]:
        return None
    return differing[-1]


class BothFunctions(ProgramCase):
    def test_all_small_books(self):
        books = small_books(3, 5)
        counts = [slow_counts(book, SIZES) for book in books]
        for first, one in zip(books, counts):
            for second, other in zip(books, counts):
                self.assertIs(same_counts(first, second), one == other, (first, second))

    def test_parting_size_of_small_books(self):
        ordered = [book for book in small_books(3, 5) if book == sorted(book)]
        turned = [list(reversed(book)) for book in ordered]
        for first in ordered:
            for second in turned:
                self.assertEqual(parting_size(first, second), slow_parting(first, second), (first, second))

    def test_wrong_first_book(self):
        for book, index in WRONG_BOOKS:
            for call in (same_counts, parting_size):
                self.assert_raises_with(InvalidBook, index, call, book, [1])
                self.assert_raises_with(InvalidBook, index, call, book, [])
                self.assert_raises_with(InvalidBook, index, call, book, book)

    def test_wrong_second_book(self):
        for book, index in WRONG_BOOKS:
            for call in (same_counts, parting_size):
                self.assert_raises_with(InvalidBook, index, call, [1], book)
                self.assert_raises_with(InvalidBook, index, call, [], book)

    def test_first_book_is_checked_first(self):
        for call in (same_counts, parting_size):
            self.assert_raises_with(InvalidBook, 2, call, [1, 1, 0], [0])
            self.assert_raises_with(InvalidBook, 0, call, [0], [1, 1, 0])

    def test_arguments_are_not_changed(self):
        first, second = [3, 5, 1], [4, 9, 2]
        for call in (same_counts, parting_size):
            call(first, second)
            self.assertEqual([first, second], [[3, 5, 1], [4, 9, 2]])

    def test_by_name(self):
        self.assertIs(same_counts(second=[5, 3], first=[3, 5]), True)
        self.assertEqual(parting_size(second=[5, 4, 3], first=[5, 3, 3]), 3)


class SameCounts(ProgramCase):
    def test_example(self):
        self.assertIs(same_counts([3, 5], [5, 3]), True)

    def test_empty_books(self):
        self.assertIs(same_counts([], []), True)
        self.assertIs(same_counts([], [1]), False)
        self.assertIs(same_counts([1], []), False)

    def test_equal_in_another_order(self):
        book = [4, 4, 1, 9, 1, 1]
        self.assertIs(same_counts(book, book), True)
        self.assertIs(same_counts(book, sorted(book)), True)
        self.assertIs(same_counts(book, [4, 1, 9, 1, 1, 1]), False)

    def test_same_lengths_in_other_numbers(self):
        self.assertIs(same_counts([2, 2, 5], [2, 5, 5]), False)
        self.assertIs(same_counts([2, 5], [2, 5, 5]), False)

    def test_as_many_lines(self):
        self.assertIs(same_counts([4], [2, 2]), False)
        self.assertIs(same_counts([4, 2], [3, 3]), False)

    def test_great_lengths(self):
        self.assertIs(same_counts([GREAT, 1] * 20, [1] * 20 + [GREAT] * 20), True)
        self.assertIs(same_counts([GREAT, 1] * 20, [1] * 20 + [GREAT] * 19 + [GREAT - 1]), False)


class PartingSize(ProgramCase):
    def test_examples(self):
        self.assertEqual(parting_size([5, 3, 3], [5, 4, 3]), 3)
        self.assertIsNone(parting_size([1], [1, 1]))

    def test_no_difference(self):
        self.assertIsNone(parting_size([], []))
        self.assertIsNone(parting_size([3, 5, 3], [3, 3, 5]))
        self.assertIsNone(parting_size([GREAT] * 40, [GREAT] * 40))

    def test_no_greatest_size(self):
        self.assertIsNone(parting_size([], [1]))
        self.assertIsNone(parting_size([7], []))
        self.assertIsNone(parting_size([9], [3, 3, 3]))
        self.assertIsNone(parting_size([9, 2], [9, 2, 2]))

    def test_least_answer(self):
        self.assertEqual([parting_size([1], [2]), parting_size([2], [1]), parting_size([1, 2], [2, 2])], [1, 1, 1])

    def test_one_length_less_or_more_often(self):
        self.assertEqual(parting_size([9, 9, 4], [9, 4, 4]), 8)
        self.assertEqual(parting_size([9, 9, 4, 4, 2], [9, 9, 4, 2, 2]), 3)
        self.assertEqual(parting_size([9, 5, 1], [9, 4, 4]), 4)

    def test_great_lengths(self):
        self.assertEqual(parting_size([GREAT], [1]), GREAT - 1)
        self.assertEqual(parting_size([1] * 40, [1] * 39 + [GREAT]), GREAT - 1)
        first = [GREAT - step for step in range(40)]
        second = [GREAT - step for step in range(38, -1, -1)] + [7]
        size = parting_size(first, second)
        self.assertEqual(size, GREAT - 40)
        self.assertNotEqual(pages(first, size), pages(second, size))
        for larger in (size + 1, size + 2, GREAT, GREAT + 1):
            self.assertEqual(pages(first, larger), pages(second, larger))

    def test_answer_is_an_argument(self):
        size = parting_size([10 ** 29, 4], [10 ** 29, 9])
        self.assertEqual(parting_size([size], [size + 1]), size)

    def test_kind_of_result(self):
        self.assertIs(type(parting_size([5, 3, 3], [5, 4, 3])), int)


if __name__ == "__main__":
    unittest.main()

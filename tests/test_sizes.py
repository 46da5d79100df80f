import unittest

from cases import ProgramCase
from pagecounts.books import pages
from pagecounts.errors import InvalidBook, InvalidNumber, InvalidSize
from pagecounts.sizes import least_size, sizes_with, total_pages
from samples import GREAT, WRONG_BOOKS, layout, quick_counts, small_books

BOOK = [5, 3, 3]


class LeastSize(ProgramCase):
    def test_example(self):
        self.assertEqual(least_size(BOOK, 6), 3)

    def test_as_laid_out(self):
        for book in small_books():
            for most in range(len(book), sum(book) + 3):
                expected = min(size for size in range(1, 7) if len(layout(book, size)) <= most)
                self.assertEqual(least_size(book, most), expected, (book, most))

    def test_least_and_greatest_answer_and_their_neighbours(self):
        self.assertEqual([least_size(BOOK, most) for most in (3, 4, 10, 11, 12)], [5, 3, 2, 1, 1])

    def test_empty_book(self):
        self.assertEqual([least_size([], most) for most in (0, 1, GREAT)], [1, 1, 1])

    def test_great_numbers(self):
        book = [GREAT] * 40
        self.assertEqual([least_size(book, 40), least_size(book, 79), least_size(book, 80)],
                         [GREAT, GREAT, (GREAT + 1) // 2])
        self.assertEqual([least_size(book, 40 * GREAT), least_size(book, 40 * GREAT - 1)], [1, 2])
        self.assertEqual(least_size([10 ** 29], 10 ** 14), 10 ** 15)
        self.assertEqual(least_size([10 ** 29], 10 ** 14 - 1), 10 ** 15 + 11)
        self.assertLessEqual(pages([10 ** 29], 10 ** 15 + 11), 10 ** 14 - 1)
        self.assertEqual(pages([10 ** 29], 10 ** 15 + 10), 10 ** 14)

    def test_by_name(self):
        self.assertEqual(least_size(most=6, book=BOOK), 3)

    def test_argument_is_neither_changed_nor_kept(self):
        book = [3, 5, 3]
        least_size(book, 6)
        self.assertEqual(book, [3, 5, 3])
        book.append(9)
        self.assertEqual(least_size(book, 6), 5)

    def test_wrong_book(self):
        for book, index in WRONG_BOOKS:
            self.assert_raises_with(InvalidBook, index, least_size, book, 50)

    def test_no_such_edition(self):
        for most in (2, 1, 0, -1, -GREAT):
            self.assert_raises_with(InvalidNumber, most, least_size, BOOK, most)
        for most in (-1, -GREAT):
            self.assert_raises_with(InvalidNumber, most, least_size, [], most)

    def test_book_is_checked_first(self):
        self.assert_raises_with(InvalidBook, 1, least_size, [1, 0], 0)


class SizesWith(ProgramCase):
    def test_example(self):
        self.assertEqual([sizes_with(BOOK, number) for number in (4, 3, 5)], [(3, 4), (5, None), None])

    def test_as_laid_out(self):
        for book in small_books():
            many = [len(layout(book, size)) for size in range(1, 7)]
            for number in range(-2, sum(book) + 3):
                fitting = [size for size in range(1, 7) if many[size - 1] == number]
                expected = (min(fitting), max(fitting)) if fitting else None
                if fitting and number == len(book):
                    expected = (min(fitting), None)
                self.assertEqual(sizes_with(book, number), expected, (book, number))

    def test_one_page_a_line(self):
        self.assertEqual(sizes_with(BOOK, 11), (1, 1))
        self.assertEqual(sizes_with([1], 1), (1, None))
        self.assertEqual(sizes_with([1, 2], 3), (1, 1))

    def test_beyond_the_lines(self):
        self.assertEqual([sizes_with(BOOK, number) for number in (12, 100, GREAT)], [None, None, None])

    def test_less_than_the_chapters(self):
        self.assertEqual([sizes_with(BOOK, number) for number in (2, 1, 0, -1, -4, -GREAT)], [None] * 6)

    def test_empty_book(self):
        self.assertEqual(sizes_with([], 0), (1, None))
        self.assertEqual([sizes_with([], number) for number in (-GREAT, -1, 1, GREAT)], [None] * 4)

    def test_great_numbers(self):
        book = [GREAT] * 40
        self.assertEqual(sizes_with(book, 40), (GREAT, None))
        self.assertEqual(sizes_with(book, 80), ((GREAT + 1) // 2, GREAT - 1))
        self.assertEqual(sizes_with(book, 41), None)
        self.assertEqual(sizes_with(book, 40 * GREAT), (1, 1))
        self.assertEqual(sizes_with(book, 40 * GREAT + 1), None)
        self.assertEqual(sizes_with([10 ** 29], 10), (10 ** 28, (10 ** 29 - 1) // 9))

    def test_kind_of_result(self):
        self.assertIs(type(sizes_with(BOOK, 4)), tuple)
        self.assertIs(type(sizes_with(BOOK, 3)), tuple)

    def test_by_name(self):
        self.assertEqual(sizes_with(number=4, book=BOOK), (3, 4))

    def test_argument_is_neither_changed_nor_kept(self):
        book = [3, 5, 3]
        sizes_with(book, 4)
        self.assertEqual(book, [3, 5, 3])
        book.append(1)
        self.assertEqual(sizes_with(book, 4), (5, None))

    def test_wrong_book(self):
        for book, index in WRONG_BOOKS:
            for number in (-1, 0, 3):
                self.assert_raises_with(InvalidBook, index, sizes_with, book, number)


class TotalPages(ProgramCase):
    # The sums of 10 ** k // s over all sizes s, for k from 0 on.
    SUMS = [1, 27, 482, 7069, 93668, 1166750, 13970034, 162725364, 1857511568, 20877697634, 231802823220]

    def test_example(self):
        self.assertEqual(total_pages(BOOK, 1, 10 ** 20), 300000000000000000014)

    def test_as_laid_out(self):
        for book in small_books(2, 7):
            many = [len(layout(book, size)) for size in range(1, 11)]
            for first in range(1, 11):
                for last in range(1, 11):
                    expected = sum(many[first - 1:last])
                    self.assertEqual(total_pages(book, first, last), expected, (book, first, last))

    def test_all_ranges_of_longer_chapters(self):
        for length in (15, 16, 17, 24, 25, 26, 30, 31, 36, 37, 97):
            for first in range(1, length + 4):
                total = 0
                for last in range(first, length + 4):
                    total += pages([length], last)
                    self.assertEqual(total_pages([length], first, last), total, (length, first, last))

    def test_first_greater_than_last(self):
        self.assertEqual([total_pages(BOOK, 2, 1), total_pages(BOOK, GREAT, 1), total_pages([], 9, 8)], [0, 0, 0])
        self.assertEqual(total_pages([10 ** 10], 10 ** 10, 10 ** 5), 0)

    def test_one_size(self):
        self.assertEqual([total_pages(BOOK, size, size) for size in (1, 2, 3, 4, 5, 6)], [11, 7, 4, 4, 3, 3])
        self.assertEqual(total_pages([10 ** 10], 3, 3), 3333333334)
        self.assertEqual(total_pages([10 ** 10], 10 ** 5 + 1, 10 ** 5 + 1), 10 ** 5)

    def test_empty_book(self):
        self.assertEqual([total_pages([], 1, 1), total_pages([], 1, 10 ** 20)], [0, 0])

    def test_known_sums(self):
        for power, total in enumerate(self.SUMS):
            length = 10 ** power
            self.assertEqual(total_pages([length + 1], 1, length), total + length)

    def test_equal_chapters(self):
        for book in ([7, 7], [1, 7, 1, 7, 7], [30, 2, 30], [26] * 10, [9, 9, 10, 10, 9]):
            many = quick_counts(book, range(1, 40))
            for first in range(1, 40):
                for last in range(first, 40):
                    expected = sum(many[first - 1:last])
                    self.assertEqual(total_pages(book, first, last), expected, (book, first, last))

    def test_ranges_around_the_root_of_longer_chapters(self):
        for length in (9999, 10 ** 4, 10001, 10002, 10101, 10102, 12345):
            many = [0]
            for size in range(1, length + 10):
                many.append(many[-1] + pages([length], size))
            for first in (1, 2, 50, 99, 100, 101, 102, 500, length - 1, length, length + 1):
                for last in (1, 50, 98, 99, 100, 101, 102, 103, 200, 999, length - 1, length, length + 9):
                    expected = max(0, many[last] - many[first - 1])
                    self.assertEqual(total_pages([length], first, last), expected, (length, first, last))

    def test_parts_of_a_range_make_the_range(self):
        book = [10 ** 10, 10 ** 10 - 1, 9999800001, 123456789, 1]
        for first, last in ((1, 10 ** 20), (1, 10 ** 10), (777, 10 ** 5), (99999, GREAT), (10 ** 6, 10 ** 9)):
            whole = total_pages(book, first, last)
            for cut in (1, 2, 1000, 99998, 99999, 10 ** 5, 10 ** 5 + 1, 10 ** 7, 5 * 10 ** 9, 10 ** 10, 10 ** 15):
                if first <= cut < last:
                    parts = total_pages(book, first, cut) + total_pages(book, cut + 1, last)
                    self.assertEqual(parts, whole, (first, last, cut))

    def test_short_ranges_of_long_chapters(self):
        book = [10 ** 10] * 9 + [7]
        for first in (1, 99990, 10 ** 5, 10 ** 7, 10 ** 10 - 3, 10 ** 20):
            expected = sum(pages(book, size) for size in range(first, first + 30))
            self.assertEqual(total_pages(book, first, first + 29), expected, first)

    def test_most_and_longest_chapters(self):
        book = [10 ** 10 - step for step in range(10)]
        singles = sum(total_pages([length], 1, 10 ** 20) for length in book)
        self.assertEqual(total_pages(book, 1, 10 ** 20), singles)
        self.assertEqual(total_pages([10 ** 10] * 10, 1, GREAT), 10 * total_pages([10 ** 10], 1, GREAT))

    def test_known_sum_at_the_bound(self):
        # The sums of 10 ** 10 // s and (10 ** 10 - 1) // s differ by the number of divisors of 10 ** 10.
        expected = self.SUMS[10] - 11 * 11 + 10 ** 29
        self.assertEqual(total_pages([10 ** 10], 1, 10 ** 29), expected)
        self.assertEqual(total_pages([10 ** 10] * 10, 1, 10 ** 29), 10 * expected)

    def test_beyond_all_chapters(self):
        self.assertEqual(total_pages(BOOK, 5, 5 + 10 ** 29), 3 * (10 ** 29 + 1))
        self.assertEqual(total_pages([10 ** 10] * 10, 10 ** 10, 10 ** 11), 10 * (9 * 10 ** 10 + 1))
        self.assertEqual(total_pages([10 ** 10], 10 ** 10 - 1, 10 ** 10), 3)

    def test_result_is_an_argument(self):
        total = total_pages(BOOK, 1, GREAT)
        self.assertEqual(total, 3 * GREAT + 14)
        self.assertEqual(total_pages(BOOK, 1, total), 3 * total + 14)
        self.assertEqual(total_pages(BOOK, total, total), 3)

    def test_by_name(self):
        self.assertEqual(total_pages(last=3, first=2, book=BOOK), 11)

    def test_argument_is_neither_changed_nor_kept(self):
        book = [3, 5, 3]
        total_pages(book, 1, 9)
        self.assertEqual(book, [3, 5, 3])
        book.append(1)
        self.assertEqual(total_pages(book, 5, 6), 8)

    def test_wrong_book(self):
        for book, index in WRONG_BOOKS:
            self.assert_raises_with(InvalidBook, index, total_pages, book, 1, 5)
            self.assert_raises_with(InvalidBook, index, total_pages, book, 5, 1)

    def test_wrong_sizes(self):
        for size in (0, -1, -GREAT):
            self.assert_raises_with(InvalidSize, size, total_pages, BOOK, size, 5)
            self.assert_raises_with(InvalidSize, size, total_pages, BOOK, 5, size)
            self.assert_raises_with(InvalidSize, size, total_pages, [], size, 5)
            self.assert_raises_with(InvalidSize, size, total_pages, [], 5, size)

    def test_order_of_checks(self):
        self.assert_raises_with(InvalidBook, 0, total_pages, [0], -1, -2)
        self.assert_raises_with(InvalidSize, -1, total_pages, BOOK, -1, -2)
        self.assert_raises_with(InvalidSize, -1, total_pages, BOOK, -1, 0)


if __name__ == "__main__":
    unittest.main()

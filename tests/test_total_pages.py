"""Sums of page counts for many unlike lengths, which are divided together."""

import unittest
from itertools import accumulate

from cases import ProgramCase
from pagecounts.books import pages
from pagecounts.quotients import divide_alone, divide_together
from pagecounts.sizes import total_pages
from samples import GREAT, quick_counts, small_books

BOUND = 10 ** 10
NEIGHBOURS = [BOUND - 1 - step for step in range(10)]


def near_squares(root):
    return [root * root - 1, root * root, root * root + 1, root * root + root - 1, root * root + root,
            root * root + root + 1, root * root + 2 * root, root * root - root]


MIDDLE_BOOKS = [
    [5000 - 7 * index for index in range(10)],
    [4000 - index for index in range(10)],
    [4097, 2048, 1025, 512, 256, 129, 64, 33, 2, 1],
    [5000, 4999, 5000, 3, 4999, 5000, 2500, 2501, 1, 1],
    [4999, 4999, 4999, 3600, 3600, 1234, 1234, 77, 77, 4999],
    near_squares(64) + [1, 2],
    near_squares(70) + near_squares(3)[:2],
    [length + 1 for length in near_squares(69)] + [4900],
    [length - 1 for length in near_squares(66)],
    [4761, 4830, 4831],
    [3481, 3482, 3539, 3540, 3541],
]


class MiddleBooks(ProgramCase):
    """Books that are great enough to be divided together, against the page counts of all sizes."""

    def check(self, book, firsts, lasts):
        sums = [0] + list(accumulate(quick_counts(book, range(1, max(lasts) + 1))))
        for first in firsts:
            for last in lasts:
                expected = sums[last] - sums[first - 1] if first <= last else 0
                self.assertEqual(total_pages(book, first, last), expected, (book, first, last))

    def test_ranges_from_one(self):
        for book in MIDDLE_BOOKS:
            self.check(book, [1], list(range(1, 150)) + list(range(150, 5200, 23)))

    def test_ranges_around_the_roots(self):
        for book in MIDDLE_BOOKS:
            self.check(book, range(52, 76, 3), range(50, 80))

    def test_ranges_in_the_middle(self):
        ends = [1, 2, 3, 30, 31, 32, 33, 49, 62, 63, 64, 65, 66, 70, 71, 72, 99, 128, 500, 2499, 2500, 4095, 4096, 4097]
        for book in MIDDLE_BOOKS:
            self.check(book, ends, ends + [4998, 4999, 5000, 5001, 6000])

    def test_ranges_that_end_far_beyond(self):
        for book in MIDDLE_BOOKS:
            longest = max(book)
            for first in (1, 2, 64, 71, 1000, longest - 1, longest, longest + 1):
                last = max(first, longest)
                expected = total_pages(book, first, last) + len(book) * (GREAT - last)
                self.assertEqual(total_pages(book, first, GREAT), expected, (book, first))

    def test_all_small_books_and_ranges(self):
        for book in small_books(3, 6):
            self.check(book, range(1, 9), range(1, 9))


class GreatBooks(ProgramCase):
    BOOKS = [
        NEIGHBOURS,
        [BOUND - 10 ** 9 * index for index in range(10)],
        [BOUND // 10 ** index for index in range(11)][:10],
        near_squares(99999) + [BOUND, BOUND - 1],
        [9987654321, 9123456789, 8765432109, 7000000007, 5555555555, 9987654321, 7000000007, 3141592653, 2, 1],
    ]

    def test_chapters_one_by_one(self):
        # A single chapter is divided alone.
        for book in self.BOOKS:
            for first, last in ((1, 10 ** 29), (77777, 123456), (10 ** 5, GREAT), (1, 99999)):
                expected = sum(total_pages([length], first, last) for length in book)
                self.assertEqual(total_pages(book, first, last), expected, (book, first, last))

    def test_neighbouring_ranges(self):
        for book in self.BOOKS:
            for first, last in ((1, 10 ** 29), (50000, 2 * 10 ** 5), (10 ** 5 + 1, 10 ** 9)):
                whole = total_pages(book, first, last)
                for cut in (1, 70000, 99998, 99999, 10 ** 5, 10 ** 5 + 1, 10 ** 6, 10 ** 12):
                    if first <= cut < last:
                        parts = total_pages(book, first, cut) + total_pages(book, cut + 1, last)
                        self.assertEqual(parts, whole, (book, first, last, cut))

    def test_short_ranges(self):
        for book in self.BOOKS:
            for first in (1, 2, 31622, 99990, 99999, 10 ** 5, 10 ** 6, 10 ** 9, 10 ** 10 - 100):
                for many in (1, 2, 10, 49, 50, 51, 300):
                    expected = sum(pages(book, size) for size in range(first, first + many))
                    self.assertEqual(total_pages(book, first, first + many - 1), expected, (book, first, many))

    def test_reversed_ranges(self):
        for book in self.BOOKS:
            self.assertEqual([total_pages(book, 10 ** 29, 1), total_pages(book, 10 ** 5, 99999)], [0, 0])

    def test_order_of_chapters(self):
        for book in self.BOOKS:
            shuffled = book[5:] + book[4::-1]
            self.assertEqual(total_pages(shuffled, 3, 10 ** 7), total_pages(book, 3, 10 ** 7))

    def test_arguments_are_not_changed(self):
        book = list(NEIGHBOURS)
        total_pages(book, 1, 1000)
        self.assertEqual(book, NEIGHBOURS)

    def test_time_at_the_bounds(self):
        # It should take about 0.02 seconds, so that a machine may be twenty times as slow.
        for first, last in ((1, 10 ** 29), (10 ** 5, 10 ** 29), (40000, 10 ** 6)):
            self.assert_ends_within(0.4, lambda: total_pages(NEIGHBOURS, first, last))

    def test_beyond_the_bounds(self):
        book = [10 ** 29 + index for index in range(5)]
        for first in (1, 999, 10 ** 20):
            expected = sum(pages(book, size) for size in range(first, first + 300))
            self.assertEqual(total_pages(book, first, first + 299), expected)


class DivideTogether(ProgramCase):
    def check(self, numbers, start, stop):
        expected = [sum(number // size for size in range(start, stop)) for number in numbers]
        self.assertEqual(divide_together(numbers, start, stop), expected, (numbers, start, stop))
        self.assertEqual([divide_alone(number, start, stop) for number in numbers], expected)

    def test_small_numbers(self):
        for start in range(1, 12):
            for stop in range(start, start + 12):
                self.check(list(range(1, 60)), start, stop)
                self.check([stop, start], start, stop)

    def test_one_size(self):
        for size in list(range(1, 200)) + [99999, 10 ** 5, 2 ** 20 - 1, 2 ** 20, 2 ** 20 + 1]:
            near = [size * factor + step for factor in (1, 2, size, 10 ** 5) for step in (-1, 0, 1)]
            self.check(near, size, size + 1)

    def test_numbers_near_multiples_and_powers(self):
        numbers = [2 ** power + step for power in (8, 16, 32, 33, 34) for step in (-1, 0, 1)]
        for start, stop in ((1, 2), (1, 3), (1, 128), (1, 129), (2, 257), (2 ** 16 - 20, 2 ** 16 + 20)):
            self.check(numbers, start, stop)

    def test_great_numbers(self):
        for start, stop in ((1, 300), (10 ** 5 - 50, 10 ** 5 + 50), (10 ** 14, 10 ** 14 + 50)):
            self.check([GREAT, GREAT - 1, 1, 10 ** 15, 10 ** 29], start, stop)

    def test_no_size(self):
        self.check([7, 8, 9], 5, 5)


if __name__ == "__main__":
    unittest.main()

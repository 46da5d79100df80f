import unittest
from itertools import islice

from cases import ProgramCase
from pagecounts.books import counts, lines_on, page_of, pages
from pagecounts.errors import InvalidBook, InvalidNumber, InvalidSize
from samples import GREAT, WRONG_BOOKS, layout, small_books

BOOK = [5, 3, 3]


class Pages(ProgramCase):
    def test_example(self):
        self.assertEqual(pages(BOOK, 2), 7)

    def test_as_laid_out(self):
        for book in small_books():
            for size in range(1, 8):
                self.assertEqual(pages(book, size), len(layout(book, size)), (book, size))

    def test_empty_book(self):
        self.assertEqual([pages([], size) for size in (1, 2, GREAT)], [0, 0, 0])

    def test_end_of_a_page_and_one_line_behind_it(self):
        self.assertEqual([pages([lines], 4) for lines in (3, 4, 5, 7, 8, 9)], [1, 1, 2, 2, 2, 3])
        self.assertEqual([pages([8, 9], 4), pages([9, 8], 4), pages([9, 9], 4)], [5, 5, 6])

    def test_sizes_next_to_a_length_and_its_parts(self):
        self.assertEqual([pages([12], size) for size in (11, 12, 13)], [2, 1, 1])
        self.assertEqual([pages([12], size) for size in (5, 6, 7)], [3, 2, 2])
        self.assertEqual([pages([12], size) for size in (3, 4, 5)], [4, 3, 3])

    def test_great_numbers(self):
        length = 10 ** 30 - 1
        self.assertEqual(pages([length] * 40, 1), 40 * length)
        self.assertEqual(pages([length] * 40, length), 40)
        self.assertEqual(pages([length] * 40, length - 1), 80)
        self.assertEqual(pages([10 ** 29, 10 ** 29 + 1], 10 ** 14), 2 * 10 ** 15 + 1)
        self.assertEqual(pages([10 ** 29], 3), (10 ** 29 + 2) // 3)

    def test_results_are_arguments(self):
        many = pages([GREAT] * 40, 1)
        self.assertEqual(pages([many, 1], many), 2)
        self.assertEqual(pages([many], 40), GREAT)

    def test_kind_of_result(self):
        self.assertIs(type(pages(BOOK, 2)), int)
        self.assertIs(type(pages([], 2)), int)

    def test_by_name(self):
        self.assertEqual(pages(size=2, book=BOOK), 7)
        self.assertEqual(pages(BOOK, size=2), 7)

    def test_argument_is_neither_changed_nor_kept(self):
        book = [5, 3, 3]
        pages(book, 2)
        self.assertEqual(book, [5, 3, 3])
        book.append(7)
        self.assertEqual(pages(book, 2), 11)

    def test_wrong_book(self):
        for book, index in WRONG_BOOKS:
            self.assert_raises_with(InvalidBook, index, pages, book, 2)

    def test_wrong_size(self):
        for size in (0, -1, -GREAT):
            self.assert_raises_with(InvalidSize, size, pages, BOOK, size)
            self.assert_raises_with(InvalidSize, size, pages, [], size)

    def test_book_is_checked_before_size(self):
        self.assert_raises_with(InvalidBook, 1, pages, [4, 0], 0)


class CountsTellLengths(ProgramCase):
    """What the page counts of all editions of a book tell: point 6."""

    def test_order_of_chapters_makes_no_difference(self):
        for book in small_books():
            self.assertEqual(list(counts(book, 9)), list(counts(sorted(book), 9)))

    def test_where_two_books_differ(self):
        books = [book for book in small_books(3, 4) if book == sorted(book)]
        for first in books:
            for second in books:
                if first != second:
                    self.check_difference(first, second)

    def check_difference(self, first, second):
        greatest = max(n for n in first + second if first.count(n) != second.count(n))
        differ = [size for size in range(1, 12) if pages(first, size) != pages(second, size)]
        if len(first) == len(second):
            self.assertEqual(max(differ), greatest - 1)
        else:
            self.assertTrue(all(size in differ for size in range(greatest, 12)))

    def test_great_lengths(self):
        first, second = [10 ** 29, 7], [10 ** 29 + 1, 7]
        self.assertNotEqual(pages(first, 10 ** 29), pages(second, 10 ** 29))
        self.assertEqual(pages(first, 10 ** 29 + 1), pages(second, 10 ** 29 + 1))


class PageOf(ProgramCase):
    def test_example(self):
        self.assertEqual(page_of(BOOK, 2, 2, 3), 5)

    def test_as_laid_out(self):
        for book in small_books():
            for size in range(1, 7):
                for page, sheet in enumerate(layout(book, size), start=1):
                    for chapter, line in sheet:
                        found = page_of(book, size, chapter, line)
                        self.assertEqual(found, page, (book, size, chapter, line))

    def test_first_and_last_line_of_first_and_last_chapter(self):
        self.assertEqual([page_of(BOOK, 2, 1, 1), page_of(BOOK, 2, 1, 5)], [1, 3])
        self.assertEqual([page_of(BOOK, 2, 3, 1), page_of(BOOK, 2, 3, 3)], [6, 7])
        self.assertEqual([page_of([4], 4, 1, 4), page_of([5], 4, 1, 4), page_of([5], 4, 1, 5)], [1, 1, 2])

    def test_great_numbers(self):
        book = [GREAT] * 40
        self.assertEqual(page_of(book, 1, 40, GREAT), 40 * GREAT)
        self.assertEqual(page_of(book, GREAT, 40, GREAT), 40)
        self.assertEqual(page_of(book, 10 ** 15, 2, 10 ** 15 + 1), 10 ** 15 + 2)

    def test_by_name(self):
        self.assertEqual(page_of(line=3, chapter=2, size=2, book=BOOK), 5)

    def test_argument_is_not_changed(self):
        book = [5, 3, 3]
        page_of(book, 2, 3, 3)
        self.assertEqual(book, [5, 3, 3])

    def test_wrong_book_and_size(self):
        for book, index in WRONG_BOOKS:
            self.assert_raises_with(InvalidBook, index, page_of, book, 2, 1, 1)
        for size in (0, -1, -GREAT):
            self.assert_raises_with(InvalidSize, size, page_of, BOOK, size, 1, 1)

    def test_wrong_chapter(self):
        for chapter in (0, -1, -3, 4, GREAT):
            self.assert_raises_with(InvalidNumber, chapter, page_of, BOOK, 2, chapter, 1)
        for chapter in (-1, 0, 1):
            self.assert_raises_with(InvalidNumber, chapter, page_of, [], 2, chapter, 1)

    def test_wrong_line(self):
        for chapter, line in ((1, 0), (1, -1), (1, 6), (2, 4), (3, 4), (3, 0), (3, GREAT), (1, -GREAT)):
            self.assert_raises_with(InvalidNumber, line, page_of, BOOK, 2, chapter, line)

    def test_order_of_checks(self):
        self.assert_raises_with(InvalidBook, 0, page_of, [0], 0, 9, 7)
        self.assert_raises_with(InvalidSize, 0, page_of, BOOK, 0, 9, 7)
        self.assert_raises_with(InvalidNumber, 9, page_of, BOOK, 1, 9, 0)
        self.assert_raises_with(InvalidNumber, 0, page_of, BOOK, 1, 0, 77)


class LinesOn(ProgramCase):
    def test_example(self):
        self.assertEqual(lines_on(BOOK, 2, 3), (1, 5, 5))

    def test_as_laid_out(self):
        for book in small_books():
            for size in range(1, 7):
                for page, sheet in enumerate(layout(book, size), start=1):
                    expected = (sheet[0][0], sheet[0][1], sheet[-1][1])
                    self.assertEqual(lines_on(book, size, page), expected, (book, size, page))

    def test_first_and_last_pages(self):
        self.assertEqual([lines_on(BOOK, 2, page) for page in (1, 4, 6, 7)],
                         [(1, 1, 2), (2, 1, 2), (3, 1, 2), (3, 3, 3)])
        self.assertEqual([lines_on([8], 4, 2), lines_on([9], 4, 2), lines_on([9], 4, 3)],
                         [(1, 5, 8), (1, 5, 8), (1, 9, 9)])
        self.assertEqual(lines_on([8], 100, 1), (1, 1, 8))

    def test_great_numbers(self):
        book = [GREAT] * 40
        self.assertEqual(lines_on(book, 1, 40 * GREAT), (40, GREAT, GREAT))
        self.assertEqual(lines_on(book, 1, 39 * GREAT), (39, GREAT, GREAT))
        self.assertEqual(lines_on(book, GREAT - 1, 80), (40, GREAT, GREAT))
        self.assertEqual(lines_on(book, GREAT, 40), (40, 1, GREAT))

    def test_agrees_with_page_of(self):
        book = [10 ** 29, 3, 10 ** 28 + 1]
        for page in (1, 2, 10 ** 15, 10 ** 15 + 1, 10 ** 15 + 2, 10 ** 15 + 10 ** 14 + 2):
            chapter, first, last = lines_on(book, 10 ** 14, page)
            self.assertEqual(page_of(book, 10 ** 14, chapter, first), page)
            self.assertEqual(page_of(book, 10 ** 14, chapter, last), page)

    def test_kind_of_result(self):
        self.assertIs(type(lines_on(BOOK, 2, 3)), tuple)

    def test_by_name(self):
        self.assertEqual(lines_on(page=3, size=2, book=BOOK), (1, 5, 5))

    def test_argument_is_not_changed(self):
        book = [5, 3, 3]
        lines_on(book, 2, 7)
        self.assertEqual(book, [5, 3, 3])

    def test_wrong_book_and_size(self):
        for book, index in WRONG_BOOKS:
            self.assert_raises_with(InvalidBook, index, lines_on, book, 2, 1)
        for size in (0, -1, -GREAT):
            self.assert_raises_with(InvalidSize, size, lines_on, BOOK, size, 1)

    def test_wrong_page(self):
        for page in (0, -1, -7, 8, GREAT, -GREAT):
            self.assert_raises_with(InvalidNumber, page, lines_on, BOOK, 2, page)
        for page in (-1, 0, 1):
            self.assert_raises_with(InvalidNumber, page, lines_on, [], 2, page)

    def test_order_of_checks(self):
        self.assert_raises_with(InvalidBook, 1, lines_on, [1, 0], 0, 0)
        self.assert_raises_with(InvalidSize, -2, lines_on, BOOK, -2, 0)


class Counts(ProgramCase):
    def first_count(self, book, limit):
        return next(iter(counts(book, limit)))

    def test_example(self):
        self.assertEqual(list(counts(BOOK, 5)), [11, 7, 4, 4, 3])

    def test_in_order_and_as_many_as_the_limit_says(self):
        for book in small_books():
            for limit in range(8):
                expected = [len(layout(book, size)) for size in range(1, limit + 1)]
                self.assertEqual(list(counts(book, limit)), expected, (book, limit))

    def test_limit_of_zero(self):
        self.assertEqual([list(counts(BOOK, 0)), list(counts([], 0))], [[], []])

    def test_empty_book(self):
        self.assertEqual(list(counts([], 3)), [0, 0, 0])

    def test_caller_stops_early(self):
        self.assertEqual(list(islice(counts(BOOK, GREAT), 3)), [11, 7, 4])
        taken = []
        for count in counts([GREAT], GREAT):
            taken.append(count)
            if len(taken) == 2:
                break
        self.assertEqual(taken, [GREAT, (GREAT + 1) // 2])

    def test_book_may_change_after_the_stop(self):
        book = [5, 3, 3]
        walk = counts(book, 5)
        self.assertEqual(next(walk), 11)
        walk.close()
        book.append(2)
        self.assertEqual(list(counts(book, 2)), [13, 8])

    def test_walks_inside_of_walks(self):
        book = [4, 2]
        pairs = [(outer, inner) for outer in counts(book, 3) for inner in counts(book, 4)]
        self.assertEqual(pairs, [(outer, inner) for outer in (6, 3, 3) for inner in (6, 3, 3, 2)])
        first, second = counts(book, 3), counts([1], 2)
        self.assertEqual([next(first), next(second), next(first), next(second)], [6, 1, 3, 1])
        self.assertEqual([list(first), list(second)], [[3], []])

    def test_by_name(self):
        self.assertEqual(list(counts(limit=5, book=BOOK)), [11, 7, 4, 4, 3])

    def test_argument_is_not_changed(self):
        book = [5, 3, 3]
        list(counts(book, 9))
        self.assertEqual(book, [5, 3, 3])

    def test_wrong_book(self):
        for book, index in WRONG_BOOKS:
            self.assert_raises_with(InvalidBook, index, self.first_count, book, 2)

    def test_wrong_book_without_any_size(self):
        self.assert_raises_with(InvalidBook, 0, self.first_count, [0], 0)

    def test_wrong_limit(self):
        for limit in (-1, -2, -GREAT):
            self.assert_raises_with(InvalidNumber, limit, self.first_count, BOOK, limit)
            self.assert_raises_with(InvalidNumber, limit, self.first_count, [], limit)

    def test_book_is_checked_before_limit(self):
        self.assert_raises_with(InvalidBook, 1, self.first_count, [4, 0], -1)


if __name__ == "__main__":
    unittest.main()

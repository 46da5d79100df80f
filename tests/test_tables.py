import unittest
from itertools import product
from math import factorial

from cases import ProgramCase
from pagecounts.errors import InvalidTable
from pagecounts.tables import count_books, lengths_of
from samples import GREAT, quick_counts, slow_counts

# The sizes of the longest tables.
SIZES = range(1, 301)


def tables_of(limit, most_chapters):
    """Return a dict: each table of this length with few chapters, and the books that fit it."""
    books = {}
    for chapters in range(most_chapters + 1):
        for lengths in product(range(1, limit + 1), repeat=chapters):
            table = tuple(slow_counts(lengths, range(1, limit + 1)))
            books.setdefault(table, []).append(list(lengths))
    return books


def changed_tables(tables, most_chapters):
    """Return these tables with one or two counts changed, except those with too many chapters."""
    changed = set()
    steps = (-GREAT, -2, -1, 1, 2, 3, GREAT)
    for table in tables:
        for place in range(len(table)):
            for other in range(len(table)):
                for step in steps:
                    counts = list(table)
                    counts[place] += step
                    counts[other] -= 1
                    changed.add(tuple(counts))
                    counts[other] += 1
                    changed.add(tuple(counts))
    return [table for table in sorted(changed) if table[-1] <= most_chapters]


def contradicting_size(table, tables):
    """Return the greatest size from which on no one of the tables has the counts of this table."""
    size = len(table)
    while any(other[size - 1:] == table[size - 1:] for other in tables):
        size -= 1
    return size


class SmallTables(ProgramCase):
    """Both functions, held against all books with few and short chapters."""

    def test_tables_of_books(self):
        for limit, most in ((1, 6), (2, 5), (3, 4), (4, 4), (5, 3)):
            for table, books in tables_of(limit, most).items():
                self.assertEqual(lengths_of(list(table)), sorted(books[0], reverse=True), table)
                self.assertEqual(count_books(list(table)), len(books), table)

    def test_changed_tables(self):
        for limit, most in ((1, 3), (2, 4), (3, 4), (4, 3)):
            tables = tables_of(limit, most)
            for table in changed_tables(tables, most):
                self.check_table(list(table), tables)

    def check_table(self, table, tables):
        books = tables.get(tuple(table))
        if books is None:
            size = contradicting_size(tuple(table), tables)
            self.assert_raises_with(InvalidTable, size, lengths_of, table)
            self.assert_raises_with(InvalidTable, size, count_books, table)
        else:
            self.assertEqual(lengths_of(table), sorted(books[0], reverse=True), table)
            self.assertEqual(count_books(table), len(books), table)


class LengthsOf(ProgramCase):
    def test_examples(self):
        self.assertEqual(lengths_of([11, 7, 4, 4, 3]), [5, 3, 3])
        self.assertEqual(lengths_of([7]), [1] * 7)
        self.assert_raises_with(InvalidTable, 3, lengths_of, [9, 6, 2, 3])

    def test_empty_table(self):
        self.assertEqual(lengths_of([]), [])

    def test_tables_of_the_empty_book(self):
        self.assertEqual([lengths_of([0]), lengths_of([0, 0]), lengths_of([0] * 300)], [[], [], []])

    def test_one_count(self):
        self.assertEqual([lengths_of([1]), lengths_of([2]), lengths_of([100])], [[1], [1, 1], [1] * 100])
        for count in (-1, -2, -GREAT):
            self.assert_raises_with(InvalidTable, 1, lengths_of, [count])

    def test_table_longer_than_the_longest_chapter(self):
        for limit in range(5, 13):
            table = slow_counts([3, 5, 3], range(1, limit + 1))
            self.assertEqual(lengths_of(table), [5, 3, 3])
            self.assertEqual(lengths_of(table + [3] * 200), [5, 3, 3])

    def test_table_shorter_than_the_longest_chapter(self):
        # The chapters that are too long look like more chapters.
        self.assertEqual(lengths_of(slow_counts([4, 1], range(1, 3))), [2, 2, 1])
        self.assertEqual(lengths_of(slow_counts([5], range(1, 2))), [1] * 5)
        self.assert_raises_with(InvalidTable, 1, lengths_of, slow_counts([6], range(1, 4)))

    def test_negative_last_count(self):
        self.assert_raises_with(InvalidTable, 4, lengths_of, [9, 6, 2, -1])
        self.assert_raises_with(InvalidTable, 300, lengths_of, [5] * 299 + [-GREAT])

    def test_last_count_of_zero(self):
        self.assert_raises_with(InvalidTable, 3, lengths_of, [0, 0, 1, 0])
        self.assert_raises_with(InvalidTable, 2, lengths_of, [1, 1, 0])
        self.assert_raises_with(InvalidTable, 1, lengths_of, [-1, 0, 0])

    def test_last_count_greater_than_the_one_before(self):
        self.assert_raises_with(InvalidTable, 1, lengths_of, [4, 5])
        self.assert_raises_with(InvalidTable, 3, lengths_of, [99, 99, 99, 100])

    def test_more_pages_than_all_chapters_can_have(self):
        self.assertEqual(lengths_of([10, 5]), [2] * 5)
        self.assert_raises_with(InvalidTable, 1, lengths_of, [11, 5])
        self.assertEqual(lengths_of([15, 10, 5]), [3] * 5)
        self.assert_raises_with(InvalidTable, 2, lengths_of, [15, 11, 5])

    def test_greatest_one_of_two_contradictions(self):
        self.assert_raises_with(InvalidTable, 4, lengths_of, [GREAT, 0, -5, 100, 2])
        self.assert_raises_with(InvalidTable, 5, lengths_of, [GREAT, 0, -5, 100, -1])
        self.assert_raises_with(InvalidTable, 2, lengths_of, [0, 0, 2, 2])

    def test_contradiction_that_shows_only_at_a_smaller_size(self):
        # Two chapters of 4 lines have 8 lines in all.
        self.assertEqual(lengths_of([8, 4, 4, 2]), [4, 4])
        self.assert_raises_with(InvalidTable, 1, lengths_of, [7, 4, 4, 2])
        self.assert_raises_with(InvalidTable, 2, lengths_of, [8, 5, 4, 2])

    def test_great_counts(self):
        for count in (GREAT, -GREAT, 10 ** 200):
            self.assert_raises_with(InvalidTable, 1, lengths_of, [count, 1])
            self.assert_raises_with(InvalidTable, 2, lengths_of, [5, count, 2])
            self.assert_raises_with(InvalidTable, 299, lengths_of, [5] * 298 + [count, 100])

    def test_most_counts_and_chapters(self):
        for step in (1, 7, 37, 100, 299):
            book = [index * step % 300 + 1 for index in range(100)]
            table = quick_counts(book, SIZES)
            self.assertEqual(lengths_of(table), sorted(book, reverse=True))
            for size in (1, 2, 150, 298, 299):
                for count in (-1, GREAT):
                    wrong = table[:size - 1] + [count] + table[size:]
                    self.assert_raises_with(InvalidTable, size, lengths_of, wrong)

    def test_longest_chapters(self):
        table = quick_counts([300] * 100, SIZES)
        self.assertEqual(lengths_of(table), [300] * 100)

    def test_result_is_new_and_argument_is_not_changed(self):
        table = [11, 7, 4, 4, 3]
        first = lengths_of(table)
        first.append(9)
        self.assertEqual([lengths_of(table), table], [[5, 3, 3], [11, 7, 4, 4, 3]])
        empty = []
        self.assertIsNot(lengths_of(empty), empty)
        table.pop()
        self.assertEqual(first, [5, 3, 3, 9])

    def test_kind_of_result(self):
        self.assertIs(type(lengths_of([7])), list)
        self.assertIs(type(lengths_of([])), list)

    def test_by_name(self):
        self.assertEqual(lengths_of(table=[11, 7, 4, 4, 3]), [5, 3, 3])


class CountBooks(ProgramCase):
    def test_example(self):
        self.assertEqual(count_books([11, 7, 4, 4, 3]), 3)

    def test_one_book(self):
        self.assertEqual([count_books([]), count_books([0]), count_books([0] * 300)], [1, 1, 1])
        self.assertEqual([count_books([1]), count_books([7]), count_books([100])], [1, 1, 1])

    def test_most_counts_and_chapters(self):
        book = range(201, 301)
        table = quick_counts(book, SIZES)
        self.assertEqual(count_books(table), factorial(100))
        book = [7] * 50 + [300] * 30 + [1] * 20
        table = quick_counts(book, SIZES)
        self.assertEqual(count_books(table), factorial(100) // (factorial(50) * factorial(30) * factorial(20)))

    def test_errors(self):
        self.assert_raises_with(InvalidTable, 3, count_books, [9, 6, 2, 3])
        self.assert_raises_with(InvalidTable, 4, count_books, [9, 6, 2, -1])
        self.assert_raises_with(InvalidTable, 1, count_books, [-GREAT])
        self.assert_raises_with(InvalidTable, 4, count_books, [GREAT, 0, -5, 100, 2])

    def test_kind_of_result(self):
        self.assertIs(type(count_books([11, 7, 4, 4, 3])), int)
        self.assertIs(type(count_books([])), int)

    def test_argument_is_not_changed(self):
        table = [11, 7, 4, 4, 3]
        count_books(table)
        self.assertEqual(table, [11, 7, 4, 4, 3])

    def test_by_name(self):
        self.assertEqual(count_books(table=[11, 7, 4, 4, 3]), 3)


if __name__ == "__main__":
    unittest.main()

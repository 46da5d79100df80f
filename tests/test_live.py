import unittest
from itertools import product

from cases import ProgramCase
from pagecounts.errors import InvalidBook, InvalidNumber, InvalidSize, InvalidTable, NothingToUndo
from pagecounts.hidden import HiddenBook
from pagecounts.live import LiveBook
from samples import GREAT, WRONG_BOOKS, layout, quick_counts, slow_counts, small_books

SIZES = range(1, 101)


def changed_sizes(before, after):
    """Return the sizes from 1 to 100 for which two books have unlike page counts."""
    counts = zip(SIZES, quick_counts(before, SIZES), quick_counts(after, SIZES))
    return [size for size, old, new in counts if old != new]


def slow_titles(book, size):
    """Return the first page of each chapter, found in the pages that are laid out."""
    firsts = {}
    for page, sheet in enumerate(layout(book, size), start=1):
        firsts.setdefault(sheet[0][0], page)
    return [firsts[chapter] for chapter in range(1, len(book) + 1)]


def parted(book, chapter, line):
    """Return the book with a chapter split."""
    return book[:chapter - 1] + [line, book[chapter - 1] - line] + book[chapter:]


def joined(book, chapter):
    """Return the book with a chapter joined with the next one."""
    return book[:chapter - 1] + [book[chapter - 1] + book[chapter]] + book[chapter + 1:]


class LiveCase(ProgramCase):
    def assert_is(self, live, book):
        """The present book of an object is this one, whatever it is asked."""
        self.assertEqual(live.book, book)
        self.assertIs(type(live.book), list)
        self.assertEqual([live.chapters, live.lines], [len(book), sum(book)])
        self.assertTrue(live == LiveBook(book))

    def assert_stays(self, live, error, value, call, *arguments):
        """A call raises the error and changes nothing."""
        book = live.book
        self.assert_raises_with(error, value, call, *arguments)
        self.assert_is(live, book)


class Properties(LiveCase):
    def test_example(self):
        live = LiveBook([5])
        sizes = live.split(1, 2)
        self.assertIsNone(live.add(4, 4))
        self.assertEqual([live.book, live.lines, sizes[:4], list(live.titles(3))],
                         [[2, 3, 4, 4], 13, [5, 6, 7, 8], [1, 2, 3, 5]])

    def test_small_books(self):
        for book in small_books():
            self.assert_is(LiveBook(book), book)

    def test_great_books(self):
        for book in ([GREAT] * 40, [1] * 40, [1, GREAT], list(range(1, 41))):
            self.assert_is(LiveBook(book), book)

    def test_the_list_is_not_kept(self):
        book = [5, 3]
        live = LiveBook(book)
        book.append(0)
        book[0] = 7
        self.assert_is(live, [5, 3])
        live.add(2)
        self.assertEqual(book, [7, 3, 0])

    def test_book_is_new_each_time(self):
        live = LiveBook([5, 3])
        first = live.book
        first.append(9)
        first[0] = 0
        self.assert_is(live, [5, 3])
        live.add(1)
        second = live.book
        live.undo()
        second.clear()
        self.assert_is(live, [5, 3])

    def test_wrong_books(self):
        for book, index in WRONG_BOOKS:
            self.assert_raises_with(InvalidBook, index, LiveBook, book)

    def test_kinds_of_results(self):
        live = LiveBook([])
        self.assertEqual([live.book, live.chapters, live.lines], [[], 0, 0])
        self.assertEqual([type(live.chapters), type(live.lines)], [int, int])
        self.assertIs(type(live == 3), bool)

    def test_by_name(self):
        live = LiveBook(book=[5, 3])
        self.assertEqual(list(live.titles(size=4)), [1, 3])
        self.assertEqual(LiveBook.from_table(table=[3, 2]).book, [2, 1])


class Equality(ProgramCase):
    def test_small_books(self):
        books = small_books(3, 3)
        for first, second in product(books, repeat=2):
            same = slow_counts(first, range(1, 12)) == slow_counts(second, range(1, 12))
            self.assertIs(LiveBook(first) == LiveBook(second), same, (first, second))
            self.assertIs(LiveBook(first) != LiveBook(second), not same, (first, second))

    def test_books_that_differ_little(self):
        self.assertFalse(LiveBook([GREAT]) == LiveBook([GREAT - 1]))
        self.assertFalse(LiveBook([2] * 40) == LiveBook([2] * 39))
        self.assertFalse(LiveBook([1] * 39 + [GREAT]) == LiveBook([1] * 39 + [GREAT + 1]))
        self.assertTrue(LiveBook([1] * 39 + [GREAT]) == LiveBook([GREAT] + [1] * 39))

    def test_the_present_book_counts(self):
        first = LiveBook([5])
        second = LiveBook([3, 2])
        self.assertFalse(first == second)
        first.split(1, 2)
        self.assertTrue(first == second)
        second.add(1)
        self.assertFalse(first == second)
        second.undo()
        self.assertTrue(first == second)
        first.undo()
        self.assertFalse(first == second)

    def test_nothing_else_is_equal(self):
        live = LiveBook([5, 3])
        for other in ([5, 3], (5, 3), "5 + 3", 8, None, True, HiddenBook([5, 3]), LiveBook, {5: 3}, object()):
            self.assertIs(live == other, False)
            self.assertIs(other == live, False)
            self.assertIs(live != other, True)
        self.assertIs(LiveBook([]) == [], False)
        self.assertIs(LiveBook([]) == None, False)  # noqa: E711

    def test_equality_changes_nothing(self):
        live = LiveBook([3, 5, 4])
        other = LiveBook([5, 4, 3])
        self.assertTrue(live == other)
        self.assertTrue(live == live)
        self.assertEqual([live.book, other.book], [[3, 5, 4], [5, 4, 3]])


class Add(LiveCase):
    def test_chapters_at_the_end(self):
        live = LiveBook([5])
        self.assertIsNone(live.add(3))
        self.assert_is(live, [5, 3])
        self.assertIsNone(live.add(9, 1, 9))
        self.assert_is(live, [5, 3, 9, 1, 9])
        self.assertIsNone(live.add(GREAT))
        self.assert_is(live, [5, 3, 9, 1, 9, GREAT])

    def test_no_chapter(self):
        live = LiveBook([5])
        live.add(3)
        self.assertIsNone(live.add())
        self.assert_is(live, [5, 3])
        self.assertIsNone(live.undo())
        self.assert_is(live, [5, 3])
        live.undo()
        self.assert_is(live, [5])
        self.assert_stays(live, NothingToUndo, 0, live.undo)

    def test_forty_chapters_and_two_hundred_more(self):
        book = list(range(1, 41))
        live = LiveBook(book)
        live.add(*range(1, 101))
        for length in range(50):
            live.add(length + 1, GREAT - length)
        expected = book + list(range(1, 101))
        for length in range(50):
            expected = expected + [length + 1, GREAT - length]
        self.assert_is(live, expected)
        for _ in range(50):
            live.undo()
        self.assert_is(live, book + list(range(1, 101)))
        live.undo()
        self.assert_is(live, book)

    def test_wrong_lengths(self):
        for book in ([], [5, 3]):
            live = LiveBook(book)
            for lengths, index in WRONG_BOOKS + [([1] * 199 + [0], 199), ([5, 3, -1, 0, 2], 2)]:
                self.assert_stays(live, InvalidBook, index, live.add, *lengths)
            self.assert_stays(live, NothingToUndo, 0, live.undo)


class SplitAndJoin(LiveCase):
    def test_every_split_of_small_books(self):
        for book in small_books(3, 4):
            for chapter, length in enumerate(book, start=1):
                for line in range(1, length):
                    live = LiveBook(book)
                    after = parted(book, chapter, line)
                    self.assertEqual(live.split(chapter, line), changed_sizes(book, after))
                    self.assert_is(live, after)
                    self.assertIsNone(live.undo())
                    self.assert_is(live, book)

    def test_every_join_of_small_books(self):
        for book in small_books(4, 3):
            for chapter in range(1, len(book)):
                live = LiveBook(book)
                after = joined(book, chapter)
                self.assertEqual(live.join(chapter), changed_sizes(book, after))
                self.assert_is(live, after)
                self.assertIsNone(live.undo())
                self.assert_is(live, book)

    def test_sizes_of_all_pairs(self):
        for first, second in product(range(1, 110, 3), (1, 2, 3, 49, 50, 51, 98, 99, 100, 101, 150, 200)):
            expected = changed_sizes([first + second], [first, second])
            self.assertEqual(LiveBook([first + second]).split(1, first), expected)
            self.assertEqual(LiveBook([first, second]).join(1), expected)

    def test_sizes_at_the_ends(self):
        self.assertEqual(LiveBook([2]).split(1, 1), list(range(2, 101)))
        self.assertEqual([size for size in LiveBook([50, 50]).join(1) if size > 50], [100])
        self.assertEqual([size for size in LiveBook([49, 50]).join(1) if size > 50], [99, 100])
        self.assertEqual([size for size in LiveBook([51, 50]).join(1) if size > 51], [])
        self.assertEqual(LiveBook([60, 60]).join(1)[-1], 59)
        self.assertNotIn(1, LiveBook([1, 99]).join(1))

    def test_page_counts_are_one_greater_at_these_sizes_alone(self):
        for first, second in product(range(1, 30), repeat=2):
            more = set(LiveBook([first + second]).split(1, first))
            whole = slow_counts([first + second], SIZES)
            parts = slow_counts([first, second], SIZES)
            self.assertEqual([part - all_ for part, all_ in zip(parts, whole)], [int(size in more) for size in SIZES])

    def test_great_lengths(self):
        for first, second in ((GREAT - 1, 1), (1, GREAT - 1), (10 ** 29, 9 * 10 ** 29 - 1), (GREAT, GREAT)):
            expected = changed_sizes([first + second], [first, second])
            live = LiveBook([7, first, second, 7])
            self.assertEqual(live.join(2), expected)
            self.assert_is(live, [7, first + second, 7])
            self.assertEqual(live.split(2, first), expected)
            self.assert_is(live, [7, first, second, 7])

    def test_results_are_new(self):
        live = LiveBook([5, 5])
        sizes = live.join(1)
        self.assertIs(type(sizes), list)
        expected = list(sizes)
        sizes.clear()
        self.assertEqual(live.split(1, 5), expected)
        self.assertEqual(live.join(1), expected)

    def test_wrong_chapters_of_split(self):
        for book in ([], [5], [5, 1, 3]):
            live = LiveBook(book)
            for chapter in (0, -1, -2, len(book) + 1, len(book) + 2, GREAT, -GREAT):
                for line in (1, 0, -1, 9, GREAT):
                    self.assert_stays(live, InvalidNumber, chapter, live.split, chapter, line)
            self.assert_stays(live, NothingToUndo, 0, live.undo)

    def test_wrong_lines_of_split(self):
        live = LiveBook([5, 1, 3])
        for chapter, length in ((1, 5), (2, 1), (3, 3)):
            for line in (0, -1, -GREAT, length, length + 1, GREAT):
                self.assert_stays(live, InvalidNumber, line, live.split, chapter, line)
        self.assert_stays(live, NothingToUndo, 0, live.undo)
        self.assert_stays(LiveBook([1]), InvalidNumber, 1, LiveBook([1]).split, 1, 1)

    def test_wrong_chapters_of_join(self):
        for book in ([], [5], [5, 1], [5, 1, 3]):
            live = LiveBook(book)
            for chapter in (0, -1, -2, len(book), len(book) + 1, GREAT, -GREAT):
                self.assert_stays(live, InvalidNumber, chapter, live.join, chapter)
            self.assert_stays(live, NothingToUndo, 0, live.undo)


class Undo(LiveCase):
    def test_nothing_to_undo(self):
        for live in (LiveBook([]), LiveBook([5]), LiveBook.from_table([2])):
            for _ in range(3):
                self.assert_stays(live, NothingToUndo, 0, live.undo)

    def test_back_to_the_beginning(self):
        live = LiveBook([5])
        live.split(1, 2)
        live.add(4, 4)
        live.join(2)
        self.assert_is(live, [2, 7, 4])
        books = []
        for _ in range(3):
            self.assertIsNone(live.undo())
            books.append(live.book)
        self.assertEqual(books, [[2, 3, 4, 4], [2, 3], [5]])
        self.assert_stays(live, NothingToUndo, 0, live.undo)

    def test_changes_after_an_undo(self):
        live = LiveBook([5])
        live.add(1)
        live.add(2)
        live.undo()
        live.add(3)
        self.assert_is(live, [5, 1, 3])
        live.undo()
        self.assert_is(live, [5, 1])
        live.undo()
        self.assert_is(live, [5])
        self.assert_stays(live, NothingToUndo, 0, live.undo)
        live.split(1, 1)
        live.undo()
        self.assert_is(live, [5])

    def test_failed_calls_are_not_taken_back(self):
        live = LiveBook([5])
        live.add(3)
        for call, arguments in ((live.add, (0,)), (live.split, (3, 1)), (live.split, (1, 5)), (live.join, (2,))):
            with self.assertRaises(ValueError):
                call(*arguments)
        live.undo()
        self.assert_is(live, [5])
        self.assert_stays(live, NothingToUndo, 0, live.undo)

    def test_questions_are_not_taken_back(self):
        live = LiveBook([5])
        live.add(3)
        self.assertEqual([live.book, live.chapters, live.lines, list(live.titles(2))], [[5, 3], 2, 8, [1, 4]])
        self.assertTrue(live == LiveBook([3, 5]))
        live.undo()
        self.assert_is(live, [5])

    def test_objects_of_one_list_are_apart(self):
        book = [5, 3]
        first = LiveBook(book)
        second = LiveBook(book)
        third = LiveBook(first.book)
        first.join(1)
        second.add(9)
        self.assert_is(first, [8])
        self.assert_is(second, [5, 3, 9])
        self.assert_is(third, [5, 3])
        self.assert_stays(third, NothingToUndo, 0, third.undo)

    def test_a_hundred_calls_against_a_list(self):
        for start, step in product(([], [5], [3, 1, 4, 1, 5], list(range(1, 41))), (1, 7, 11, 29)):
            self.check_calls(start, step)

    def check_calls(self, start, step):
        """Make a hundred calls, each chosen by a number, and the same changes to a list."""
        live = LiveBook(start)
        book = list(start)
        past = []
        number = step
        for _ in range(100):
            number = (number * 1103 + 12345) % 65536
            place = number // 16 % (len(book) + 1) + 1
            choice = number % 5
            before = book
            if choice == 4:
                book = self.check_undo(live, book, past)
            elif choice == 3 and place < len(book):
                book = joined(book, place)
                self.assertEqual(live.join(place), changed_sizes(before, book))
            elif choice == 2 and place <= len(book) and book[place - 1] > 1:
                line = number // 64 % (book[place - 1] - 1) + 1
                book = parted(book, place, line)
                self.assertEqual(live.split(place, line), changed_sizes(before, book))
            else:
                lengths = [1 + number // 32 % 90] * choice
                book = book + lengths
                live.add(*lengths)
            if choice != 4:
                past.append(before)
            self.assert_is(live, book)
        while past:
            book = self.check_undo(live, book, past)
        self.assert_is(live, start)

    def check_undo(self, live, book, past):
        if not past:
            self.assert_stays(live, NothingToUndo, 0, live.undo)
            return book
        self.assertIsNone(live.undo())
        self.assertEqual(live.book, past[-1])
        return past.pop()


class Titles(LiveCase):
    def test_small_books(self):
        for book in small_books():
            live = LiveBook(book)
            for size in range(1, 8):
                self.assertEqual(list(live.titles(size)), slow_titles(book, size), (book, size))

    def test_great_numbers(self):
        live = LiveBook([GREAT, 1, GREAT, 1])
        self.assertEqual(list(live.titles(1)), [1, GREAT + 1, GREAT + 2, 2 * GREAT + 2])
        self.assertEqual(list(live.titles(GREAT - 1)), [1, 3, 4, 6])
        for size in (GREAT, GREAT + 1, 10 ** 60):
            self.assertEqual(list(live.titles(size)), [1, 2, 3, 4])

    def test_after_changes(self):
        live = LiveBook([5])
        self.assertEqual(list(live.titles(2)), [1])
        live.add(3, 1)
        self.assertEqual(list(live.titles(2)), [1, 4, 6])
        live.join(1)
        self.assertEqual(list(live.titles(2)), [1, 5])
        live.undo()
        self.assertEqual(list(live.titles(2)), [1, 4, 6])

    def test_empty_book(self):
        self.assertEqual(list(LiveBook([]).titles(3)), [])

    def test_not_to_the_end(self):
        live = LiveBook([5, 4, 3])
        walk = live.titles(2)
        self.assertEqual([next(walk), next(walk)], [1, 4])
        walk.close()
        live.add(2)
        self.assertEqual(list(live.titles(2)), [1, 4, 6, 8])
        self.assert_is(live, [5, 4, 3, 2])

    def test_two_walks_at_once(self):
        live = LiveBook([5, 4, 3])
        first = live.titles(2)
        second = live.titles(1)
        self.assertEqual(list(zip(first, second)), [(1, 1), (4, 6), (6, 10)])
        self.assertEqual(list(live.titles(2)), [1, 4, 6])

    def test_wrong_sizes(self):
        for book in ([], [5, 3]):
            live = LiveBook(book)
            for size in (0, -1, -GREAT):
                self.assert_stays(live, InvalidSize, size, lambda: next(live.titles(size)))


class FromTable(LiveCase):
    def test_tables_of_small_books(self):
        for book in small_books():
            live = LiveBook.from_table(slow_counts(book, range(1, 7)))
            self.assert_is(live, sorted(book, reverse=True))
            self.assertIs(type(live), LiveBook)
            self.assertTrue(live == LiveBook(book))
            self.assert_stays(live, NothingToUndo, 0, live.undo)

    def test_empty_table(self):
        self.assert_is(LiveBook.from_table([]), [])

    def test_hundred_chapters(self):
        live = LiveBook.from_table([100])
        self.assert_is(live, [1] * 100)
        live.join(100 - 1)
        self.assert_is(live, [1] * 98 + [2])

    def test_changes(self):
        table = [8, 5, 3, 3, 2]
        live = LiveBook.from_table(table)
        live.add(7)
        live.split(1, 1)
        self.assert_is(live, [1, 4, 3, 7])
        self.assertEqual(table, [8, 5, 3, 3, 2])
        live.undo()
        live.undo()
        self.assert_is(live, [5, 3])

    def test_off_an_object(self):
        live = LiveBook([5])
        self.assert_is(live.from_table([3, 2]), [2, 1])
        self.assert_is(live, [5])

    def test_tables_without_a_book(self):
        for table, size in (([9, 6, 2, 3], 3), ([-1], 1), ([3, -1], 2), ([1, 2], 1), ([5, 2], 1), ([GREAT, 3, 3], 1)):
            self.assert_raises_with(InvalidTable, size, LiveBook.from_table, table)


if __name__ == "__main__":
    unittest.main()

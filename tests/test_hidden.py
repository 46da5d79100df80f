import unittest
from itertools import product

from cases import ProgramCase
from pagecounts.errors import InvalidBook, InvalidSize
from pagecounts.hidden import HiddenBook, find
from samples import GREAT, WRONG_BOOKS, quick_counts, slow_counts, small_books

FORTY = [(index + 2) ** 18 % (10 ** 29) + 1 for index in range(40)]


class OnlyAsked:
    """Answers as a hidden book does, but has nothing else; it keeps the sizes that it was asked for."""

    def __init__(self, book):
        self.sizes = []
        self.ask = self.answers(list(book))

    def answers(self, book):
        def ask(size):
            self.sizes.append(size)
            return quick_counts(book, [size])[0]
        return ask


class Ask(ProgramCase):
    def test_small_books(self):
        for book in small_books():
            hidden = HiddenBook(book)
            self.assertEqual([hidden.ask(size) for size in range(1, 9)], slow_counts(book, range(1, 9)))

    def test_great_lengths_and_sizes(self):
        for book in ([GREAT] * 40, FORTY, [1, GREAT]):
            hidden = HiddenBook(book)
            sizes = [1, 2, 3, 10 ** 15, GREAT - 1, GREAT, GREAT + 1, 10 ** 60]
            self.assertEqual([hidden.ask(size) for size in sizes], quick_counts(book, sizes))

    def test_empty_book(self):
        hidden = HiddenBook([])
        self.assertEqual([hidden.ask(size) for size in (1, 2, GREAT)], [0, 0, 0])
        self.assertEqual(hidden.questions, 3)

    def test_questions_are_counted(self):
        hidden = HiddenBook([5, 3])
        self.assertEqual(hidden.questions, 0)
        for many in range(1, 101):
            hidden.ask(many)
            self.assertEqual([hidden.questions, hidden.questions], [many, many])
        self.assertIs(type(hidden.questions), int)
        self.assertIs(type(hidden.ask(2)), int)

    def test_questions_of_other_books_are_not_counted(self):
        book = [5, 3]
        first = HiddenBook(book)
        second = HiddenBook(book)
        first.ask(1)
        first.ask(1)
        second.ask(2)
        self.assertEqual([first.questions, second.questions], [2, 1])

    def test_wrong_sizes(self):
        hidden = HiddenBook([5, 3])
        hidden.ask(2)
        for size in (0, -1, -GREAT):
            self.assert_raises_with(InvalidSize, size, hidden.ask, size)
            self.assert_raises_with(InvalidSize, size, HiddenBook([]).ask, size)
        self.assertEqual(hidden.questions, 1)
        self.assertEqual([hidden.ask(size) for size in range(1, 6)], [8, 5, 3, 3, 2])
        self.assertEqual(hidden.questions, 6)

    def test_wrong_books(self):
        for book, index in WRONG_BOOKS:
            self.assert_raises_with(InvalidBook, index, HiddenBook, book)

    def test_the_list_is_not_kept(self):
        book = [5, 3]
        hidden = HiddenBook(book)
        book.append(0)
        book[0] = 1
        self.assertEqual([hidden.ask(1), hidden.ask(4)], [8, 3])
        self.assertEqual(book, [1, 3, 0])

    def test_by_name(self):
        hidden = HiddenBook(book=[5, 3])
        self.assertEqual([hidden.ask(size=2), find(longest=7, hidden=hidden)], [5, [5, 3]])


class Find(ProgramCase):
    def check(self, book, longest):
        hidden = HiddenBook(book)
        self.assertEqual(find(hidden, longest), sorted(book, reverse=True), (book, longest))
        self.assertLessEqual(hidden.questions, 110 * len(set(book)) + 10, (book, longest))

    def test_example(self):
        self.assertEqual(find(HiddenBook([3, 10 ** 20, 3]), 10 ** 25), [10 ** 20, 3, 3])

    def test_every_small_book(self):
        for book in small_books(4, 5):
            for longest in {max(book, default=1), 5, 6, 7, GREAT}:
                self.check(book, longest)

    def test_two_chapters(self):
        for first, second in product(range(1, 20), repeat=2):
            for longest in (max(first, second), max(first, second) + 1, 64):
                self.check([first, second], longest)

    def test_one_chapter(self):
        for longest in range(1, 40):
            for length in range(1, longest + 1):
                self.check([length], longest)
                self.check([length] * 40, longest)

    def test_empty_book(self):
        for longest in (1, 2, 1000, GREAT):
            self.check([], longest)
            self.assertEqual(find(HiddenBook([]), longest), [])

    def test_one_line_in_each_chapter(self):
        for longest in (1, 2, 3, GREAT):
            self.check([1], longest)
            self.check([1] * 40, longest)

    def test_lengths_and_bounds_near_the_greatest(self):
        for book in ([GREAT], [GREAT] * 40, [GREAT, 1], [GREAT, GREAT - 1, 1, GREAT - 1], FORTY, FORTY[:20] * 2,
                     list(range(GREAT, GREAT - 40, -1)), [2 ** index for index in range(40)],
                     [2 ** 99, 2 ** 99 - 1, 2 ** 99 + 1], list(range(1, 41))):
            self.check(book, GREAT)
            self.check(book, max(book))

    def test_number_of_questions(self):
        for book in (FORTY, list(range(GREAT, GREAT - 40, -1))):
            asked = OnlyAsked(book)
            self.assertEqual(find(asked, GREAT), sorted(book, reverse=True))
            self.assertLessEqual(len(asked.sizes), 110 * 40 + 10)
        asked = OnlyAsked([7] * 40)
        find(asked, GREAT)
        self.assertLessEqual(len(asked.sizes), 110 + 10)

    def test_it_learns_by_questions_alone(self):
        for book in small_books(2, 6):
            asked = OnlyAsked(book)
            self.assertEqual(find(asked, 9), sorted(book, reverse=True))
            self.assertTrue(all(size >= 1 for size in asked.sizes))

    def test_a_book_that_was_asked_before(self):
        hidden = HiddenBook([9, 4, 4])
        for size in (1, 1, 3, 50):
            hidden.ask(size)
        for _ in range(3):
            before = hidden.questions
            self.assertEqual(find(hidden, 12), [9, 4, 4])
            self.assertLessEqual(hidden.questions - before, 230)
        self.assertGreater(before, 4)

    def test_the_book_answers_as_before(self):
        for book in ([], [1], [3, 9, 3], [GREAT, 2]):
            hidden = HiddenBook(book)
            before = [hidden.ask(size) for size in range(1, 12)]
            find(hidden, GREAT)
            self.assertEqual([hidden.ask(size) for size in range(1, 12)], before)

    def test_result_is_new(self):
        hidden = HiddenBook([3, 9])
        first = find(hidden, 9)
        self.assertIs(type(first), list)
        first.append(7)
        self.assertEqual([find(hidden, 9), hidden.ask(1)], [[9, 3], 12])

    def test_beyond_the_bounds(self):
        book = [10 ** 31, 5, 5]
        self.check(book, 10 ** 31)
        self.check(book, 10 ** 32)


if __name__ == "__main__":
    unittest.main()

"""What the document promises over the whole program."""

import copy
import unittest
from itertools import permutations

from cases import ProgramCase
from pagecounts.books import counts, lines_on, page_of, pages
from pagecounts.chains import contradiction, count_fitting, nth_fitting
from pagecounts.errors import BookError, InvalidBook, InvalidChain, InvalidNumber, InvalidSize, InvalidTable
from pagecounts.errors import NothingToUndo, Unreadable
from pagecounts.hidden import HiddenBook, find
from pagecounts.live import LiveBook
from pagecounts.parting import parting_size, same_counts
from pagecounts.readings import read_book
from pagecounts.sizes import least_size, sizes_with, total_pages
from pagecounts.tables import count_books, lengths_of
from pagecounts.texts import show_book
from samples import GREAT, quick_counts, small_books

# Each function and class with the names of its arguments and values for them.
CALLS = [
    (pages, {"book": [5, 3, 3], "size": 2}),
    (page_of, {"book": [5, 3, 3], "size": 2, "chapter": 2, "line": 3}),
    (lines_on, {"book": [5, 3, 3], "size": 2, "page": 3}),
    (least_size, {"book": [5, 3, 3], "most": 6}),
    (sizes_with, {"book": [5, 3, 3], "number": 4}),
    (total_pages, {"book": [5, 3, 3], "first": 1, "last": 9}),
    (lengths_of, {"table": [11, 7, 4, 4, 3]}),
    (count_books, {"table": [11, 7, 4, 4, 3]}),
    (same_counts, {"first": [3, 5], "second": [5, 3]}),
    (parting_size, {"first": [5, 3, 3], "second": [5, 4, 3]}),
    (count_fitting, {"chapters": 3, "lines": 11, "chain": [(2, 7), (4, 4)]}),
    (contradiction, {"chapters": 2, "lines": 4, "chain": [(1, 4), (2, 5)]}),
    (nth_fitting, {"chapters": 3, "lines": 11, "chain": [(2, 7), (4, 4)], "number": 4}),
    (show_book, {"book": [5, 3, 3]}),
    (read_book, {"text": "5 + 2x3"}),
]
# Calls that raise, in which a list is passed.
WRONG_CALLS = [
    (InvalidBook, pages, [[5, 0, 3], 2]),
    (InvalidSize, page_of, [[5, 3], 0, 1, 1]),
    (InvalidNumber, lines_on, [[5, 3], 2, 9]),
    (InvalidNumber, least_size, [[5, 3], 1]),
    (InvalidSize, total_pages, [[5, 3], 1, 0]),
    (InvalidTable, lengths_of, [[9, 6, 2, 3]]),
    (InvalidTable, count_books, [[9, 6, 2, 3]]),
    (InvalidTable, LiveBook.from_table, [[9, 6, 2, 3]]),
    (InvalidBook, parting_size, [[5, 3], [0]]),
    (InvalidChain, count_fitting, [2, 4, [(2, 3), (3, 2)]]),
    (InvalidNumber, nth_fitting, [2, 4, [(2, 3)], 2]),
    (InvalidBook, HiddenBook, [[5, -1]]),
    (InvalidBook, LiveBook, [[5, -1]]),
]


class Arguments(ProgramCase):
    def test_by_position_and_by_name(self):
        for call, arguments in CALLS:
            expected = call(*arguments.values())
            self.assertEqual(call(**arguments), expected, call)
            for names in permutations(arguments):
                self.assertEqual(call(**{name: arguments[name] for name in names}), expected, call)
        self.assertEqual(list(counts(limit=3, book=[5, 3])), list(counts([5, 3], 3)))

    def test_they_are_not_changed(self):
        for call, arguments in CALLS:
            before = copy.deepcopy(arguments)
            call(**arguments)
            self.assertEqual(arguments, before, call)
        for error, call, arguments in WRONG_CALLS:
            before = copy.deepcopy(arguments)
            with self.assertRaises(error):
                call(*arguments)
            self.assertEqual(arguments, before, call)

    def test_returned_lists_are_new(self):
        for call, arguments in CALLS:
            first = call(**arguments)
            if isinstance(first, list):
                expected = list(first)
                self.assertTrue(all(first is not argument for argument in arguments.values()), call)
                first.append(77)
                self.assertEqual(call(**arguments), expected, call)

    def test_tuples_of_results_are_tuples(self):
        for result in (lines_on([5, 3], 2, 3), sizes_with([5, 3], 3), contradiction(2, 4, [(1, 3)])):
            self.assertIs(type(result), tuple)


class Errors(ProgramCase):
    def test_every_error_is_one_of_the_program(self):
        for error, call, arguments in WRONG_CALLS:
            with self.assertRaises(BookError) as caught:
                call(*arguments)
            self.assertIs(type(caught.exception), error, call)
            self.assertIsInstance(caught.exception, ValueError)

    def test_the_first_error_of_two(self):
        hidden = HiddenBook([5])
        live = LiveBook([5, 3])
        self.assert_raises_with(InvalidBook, 1, pages, [5, 0], 0)
        self.assert_raises_with(InvalidSize, 0, page_of, [5], 0, 9, 9)
        self.assert_raises_with(InvalidNumber, 3, live.split, 3, 0)
        self.assert_raises_with(InvalidBook, 1, live.add, 5, 0, -1)
        self.assert_raises_with(InvalidTable, 2, LiveBook.from_table, [9, -2, -1][:2])
        self.assert_raises_with(InvalidSize, -1, hidden.ask, -1)
        self.assert_raises_with(NothingToUndo, 0, live.undo)
        self.assert_raises_with(Unreadable, "0 + 3 + 3", read_book, "0 + 3 + 3")
        self.assertEqual([hidden.questions, live.book], [0, [5, 3]])


class Agreement(ProgramCase):
    """What the parts of the program tell of one book."""

    def check(self, book, limit):
        table = list(counts(book, limit))
        lengths = sorted(book, reverse=True)
        self.assertEqual(find(HiddenBook(book), limit), lengths)
        self.assertEqual(lengths_of(table), lengths)
        live = LiveBook.from_table(table)
        self.assertEqual(live.book, lengths)
        self.assertTrue(live == LiveBook(book))
        self.assertTrue(same_counts(live.book, book))
        self.assertEqual(read_book(show_book(book)), book)
        self.assertEqual(read_book(show_book(live.book)), lengths)
        self.assertEqual(total_pages(book, 1, limit), sum(table))

    def test_small_books(self):
        for book in small_books(3, 6):
            for limit in (6, 9):
                self.check(book, limit)

    def test_books_with_many_chapters(self):
        for book in ([1] * 40, list(range(1, 41)), [300] * 2 + [7] * 38, [299, 1, 300]):
            self.check(book, 300)

    def test_titles_are_pages_of_first_lines(self):
        for book in small_books(3, 5) + [[GREAT, 7, GREAT]]:
            live = LiveBook(book)
            for size in (1, 2, 3, 4, 10 ** 29):
                titles = [page_of(book, size, chapter, 1) for chapter in range(1, len(book) + 1)]
                self.assertEqual(list(live.titles(size)), titles)

    def test_split_sizes_part_the_books(self):
        for book in small_books(3, 5):
            for chapter in range(1, len(book)):
                live = LiveBook(book)
                sizes = live.join(chapter)
                less = [size for size in range(1, 101) if pages(live.book, size) < pages(book, size)]
                self.assertEqual(sizes, less)

    def test_results_are_arguments(self):
        live = LiveBook([GREAT] * 40)
        live.add(*[GREAT] * 100)
        for _ in range(90):
            live.join(1)
        hidden = HiddenBook(live.book)
        self.assertEqual(find(hidden, live.lines), sorted(live.book, reverse=True))
        self.assertEqual(live.lines, 140 * GREAT)
        self.assertEqual(read_book(show_book(live.book)), live.book)
        self.assertTrue(LiveBook(find(hidden, live.lines)) == live)
        self.assertEqual([hidden.ask(live.lines), pages(live.book, 2)], [50, quick_counts(live.book, [2])[0]])
        book = read_book("1000x7")
        self.assertEqual([show_book(book), find(HiddenBook(book), 7), LiveBook(book).chapters], ["1000x7", book, 1000])

    def test_answers_are_the_same_each_time(self):
        for call, arguments in CALLS:
            self.assertEqual(call(**arguments), call(**arguments))


if __name__ == "__main__":
    unittest.main()

import unittest
from itertools import product
from math import comb

from cases import ProgramCase
from pagecounts.chains import contradiction, count_fitting, nth_fitting
from pagecounts.errors import InvalidChain, InvalidNumber
from samples import GREAT, books_with, quick_counts, slow_counts

CALLS = (count_fitting, contradiction)
WRONG_CHAINS = [
    ([(0, 1)], 0),
    ([(-1, 1)], 0),
    ([(-GREAT, 1), (1, 1)], 0),
    ([(1, 1), (0, 1)], 1),
    ([(2, 1), (-2, 1)], 1),
    ([(2, 1), (2, 1)], 1),
    ([(4, 1), (2, 1)], 1),
    ([(2, 1), (3, 1)], 1),
    ([(2, 1), (4, 1), (6, 1)], 2),
    ([(2, 1), (4, 1), (4, 1)], 2),
    ([(1, 1), (3, 1), (4, 1), (0, 1)], 2),
    ([(3, 1), (GREAT, 1), (GREAT + 1, 1)], 2),
]


def fitting(chapters, lines, chain):
    """Return all books that fit, by trying every book."""
    sizes = [size for size, _ in chain]
    wanted = [many for _, many in chain]
    return [book for book in books_with(chapters, lines) if slow_counts(book, sizes) == wanted]


def slow_contradiction(chapters, lines, chain):
    if not books_with(chapters, lines):
        return (-1, -1)
    for index in range(len(chain)):
        if not fitting(chapters, lines, chain[:index + 1]):
            return (index - 1, index)
    return None


def chain_of(book, sizes):
    return list(zip(sizes, quick_counts(book, sizes)))


class SmallChains(ProgramCase):
    """All three functions, held against all books with few chapters and lines."""

    def check(self, chapters, lines, chain):
        arguments = (chapters, lines, chain)
        books = fitting(*arguments)
        self.assertEqual(count_fitting(*arguments), len(books), arguments)
        self.assertEqual(contradiction(*arguments), slow_contradiction(*arguments), arguments)
        self.assertEqual([nth_fitting(*arguments, number) for number in range(len(books))], books, arguments)
        for number in (-1, len(books), len(books) + 1, -GREAT, GREAT):
            self.assert_raises_with(InvalidNumber, number, nth_fitting, *arguments, number)

    def test_no_tuple(self):
        for chapters in range(5):
            for lines in range(8):
                self.check(chapters, lines, [])

    def test_one_tuple(self):
        for chapters in range(4):
            for lines in range(8):
                for size in range(1, 9):
                    for many in range(-1, lines + 2):
                        self.check(chapters, lines, [(size, many)])

    def test_two_tuples(self):
        for sizes in ((1, 2), (1, 3), (2, 4), (2, 6), (3, 6)):
            for chapters, lines in ((0, 0), (1, 5), (2, 6), (3, 6), (3, 7), (2, 9)):
                for counts in product(range(-1, lines + 1), repeat=2):
                    self.check(chapters, lines, list(zip(sizes, counts)))

    def test_chains_of_books(self):
        for sizes in ((1, 2, 4), (2, 4, 8), (1, 2, 6, 12), (2, 4, 8, 16, 32), (1, 3, 6), (5, 10)):
            for chapters, lines in ((1, 9), (2, 9), (3, 9), (4, 7), (2, 13)):
                for book in books_with(chapters, lines)[::3]:
                    self.check(chapters, lines, chain_of(book, sizes))

    def test_chains_with_a_count_changed(self):
        sizes = (1, 2, 4, 12)
        for chapters, lines in ((1, 9), (2, 9), (3, 8)):
            for book in books_with(chapters, lines)[::4]:
                for place, step in product(range(4), (-2, -1, 1, 2)):
                    chain = chain_of(book, sizes)
                    chain[place] = (chain[place][0], chain[place][1] + step)
                    self.check(chapters, lines, chain)

    def test_chains_with_greater_ratios(self):
        for sizes in ((3,), (4,), (5,), (1, 3, 9), (2, 6), (3, 12), (2, 10, 20), (4, 20), (1, 7)):
            for chapters, lines in ((3, 20), (4, 16), (5, 15), (6, 13), (7, 12), (8, 11)):
                books = books_with(chapters, lines)
                for book in books[::len(books) // 3]:
                    self.check_whole(chapters, lines, chain_of(book, sizes), books)

    def check_whole(self, chapters, lines, chain, books):
        sizes = [size for size, _ in chain]
        fit = [book for book in books if chain_of(book, sizes) == chain]
        self.assertEqual(count_fitting(chapters, lines, chain), len(fit))
        self.assertEqual([nth_fitting(chapters, lines, chain, number) for number in range(len(fit))], fit)
        self.assert_raises_with(InvalidNumber, len(fit), nth_fitting, chapters, lines, chain, len(fit))


class Edges(ProgramCase):
    def test_examples(self):
        self.assertEqual(count_fitting(2, 4, [(2, 3)]), 2)
        self.assertEqual(nth_fitting(2, 4, [(2, 3)], 1), [3, 1])
        self.assertEqual(count_fitting(3, 11, [(2, 7), (4, 4)]), 9)
        self.assertEqual(contradiction(2, 4, [(1, 4), (2, 5)]), (0, 1))

    def test_no_chapters_and_no_lines(self):
        for chain in ([], [(1, 0)], [(3, 0), (6, 0)], [(2 ** k, 0) for k in range(20)]):
            self.assertEqual(count_fitting(0, 0, chain), 1)
            self.assertIsNone(contradiction(0, 0, chain))
            self.assertEqual(nth_fitting(0, 0, chain[:5], 0), [])
            for number in (-1, 1):
                self.assert_raises_with(InvalidNumber, number, nth_fitting, 0, 0, chain[:5], number)

    def test_empty_book_with_pages(self):
        self.assertEqual([count_fitting(0, 0, [(1, 1)]), count_fitting(0, 0, [(2, 0), (4, -1)])], [0, 0])
        self.assertEqual(contradiction(0, 0, [(1, 1)]), (-1, 0))
        self.assertEqual(contradiction(0, 0, [(1, 0), (2, 0), (4, 1), (8, 0)]), (1, 2))

    def test_unlike_numbers_of_chapters_and_lines(self):
        for chapters, lines in ((1, 0), (40, 0), (0, 1), (0, GREAT), (3, 2), (40, 39)):
            for chain in ([], [(1, lines)], [(2, 5), (4, 0)]):
                self.assertEqual(count_fitting(chapters, lines, chain), 0)
                self.assertEqual(contradiction(chapters, lines, chain), (-1, -1))
        for chapters, lines in ((1, 0), (8, 0), (0, 1), (0, 60), (3, 2), (8, 7)):
            for number in (-1, 0, 1):
                self.assert_raises_with(InvalidNumber, number, nth_fitting, chapters, lines, [], number)

    def test_one_line_for_each_chapter(self):
        self.assertEqual(count_fitting(40, 40, [(1, 40), (7, 40), (GREAT // 7 * 7, 40)]), 1)
        self.assertEqual(count_fitting(40, 40, [(1, 40), (7, 41)]), 0)
        self.assertEqual(nth_fitting(8, 8, [(3, 8)], 0), [1] * 8)

    def test_index_of_the_first_contradiction(self):
        self.assertEqual(contradiction(2, 9, [(1, 8)]), (-1, 0))
        self.assertEqual(contradiction(2, 9, [(2, 1)]), (-1, 0))
        self.assertEqual(contradiction(2, 9, [(2, 5), (4, 1)]), (0, 1))
        self.assertEqual(contradiction(2, 9, [(2, 5), (4, 3), (8, 4)]), (1, 2))
        self.assertEqual(contradiction(2, 9, [(2, 5), (4, 9), (8, 4)]), (0, 1))
        self.assertIsNone(contradiction(2, 9, [(2, 5), (4, 3), (8, 2)]))

    def test_less_pages_than_chapters(self):
        # Two lines could be one page of three lines, but not with two chapters.
        self.assertEqual(count_fitting(2, 2, [(3, 1)]), 0)
        self.assertEqual(contradiction(2, 2, [(3, 2), (6, 1)]), (0, 1))

    def test_great_and_negative_page_counts(self):
        for many in (GREAT, -GREAT, -1, 0):
            self.assertEqual(count_fitting(3, 9, [(2, many)]), 0)
            self.assertEqual(contradiction(3, 9, [(2, many)]), (-1, 0))
            self.assertEqual(contradiction(3, 9, [(2, 6), (4, many)]), (0, 1))
            self.assert_raises_with(InvalidNumber, 0, nth_fitting, 3, 9, [(2, many)], 0)


class GreatNumbers(ProgramCase):
    def test_no_tuple(self):
        self.assertEqual(count_fitting(40, GREAT, []), comb(GREAT - 1, 39))
        self.assertEqual(count_fitting(1, GREAT, []), 1)
        self.assertEqual(count_fitting(2, GREAT, [(1, GREAT)]), GREAT - 1)

    def test_all_page_counts_together_have_all_books(self):
        for chapters, size in ((40, 2), (40, 10 ** 27), (17, GREAT // 5), (40, GREAT), (3, 10 ** 28 + 1)):
            lines = GREAT
            least = max(chapters, -(-lines // size))
            chains = [[(size, many)] for many in range(least, least + chapters + 1)]
            total = sum(count_fitting(chapters, lines, chain) for chain in chains)
            self.assertEqual(total, comb(lines - 1, chapters - 1), (chapters, size))

    def test_the_next_size_parts_the_books(self):
        for first, second in ((2, 6), (10 ** 14, 10 ** 27), (10 ** 27, 4 * 10 ** 28)):
            many = -(-GREAT // first) + 17
            least = max(40, -(-GREAT // second))
            chains = [[(first, many), (second, fewer)] for fewer in range(least, least + 41)]
            total = sum(count_fitting(40, GREAT, chain) for chain in chains)
            self.assertEqual(total, count_fitting(40, GREAT, [(first, many)]))
            self.assertGreater(total, 0)

    def test_two_chapters(self):
        # Both chapters end within a page, or both at the end of one.
        size = 10 ** 10
        self.assertEqual(count_fitting(2, 10 ** 20, [(size, 10 ** 10)]), 10 ** 10 - 1)
        self.assertEqual(count_fitting(2, 10 ** 20, [(size, 10 ** 10 + 1)]), 10 ** 20 - 10 ** 10)
        self.assertEqual(count_fitting(2, 10 ** 20, [(size, 10 ** 10 + 2)]), 0)

    def test_longest_chains(self):
        book = [(index + 2) ** 18 % (10 ** 29) + 1 for index in range(40)]
        for base in (2, 3, 31):
            sizes = [base ** index for index in range(20)]
            chain = chain_of(book, sizes)
            self.assertGreater(count_fitting(40, sum(book), chain), 0)
            self.assertIsNone(contradiction(40, sum(book), chain))
            for place in (0, 1, 10, 19):
                for many in (-1, GREAT):
                    wrong = chain[:place] + [(chain[place][0], many)] + chain[place + 1:]
                    self.assertEqual(count_fitting(40, sum(book), wrong), 0)
                    self.assertEqual(contradiction(40, sum(book), wrong), (place - 1, place))

    def test_long_chain_of_two_chapters(self):
        sizes = [2 ** index for index in range(20)]
        chains = {}
        for length in range(1, 700):
            chain = tuple(chain_of([length, 700 - length], sizes))
            chains[chain] = chains.get(chain, 0) + 1
        for chain, many in chains.items():
            self.assertEqual(count_fitting(2, 700, list(chain)), many)

    def test_results_are_arguments(self):
        many = count_fitting(40, GREAT, [])
        self.assertEqual(count_fitting(2, many, []), many - 1)
        self.assertEqual(contradiction(2, many, [(many, 3)]), (-1, 0))
        self.assert_raises_with(InvalidNumber, many, nth_fitting, 8, 60, [], many)


class NthFitting(ProgramCase):
    # All lengths are multiples of 4 lines, and at most 12 lines long.
    CHAIN = [(1, 60), (2, 30), (4, 15), (12, 8), (60, 8)]

    def test_all_books_of_the_longest_chain(self):
        books = [[4 * part for part in parts] for parts in product((1, 2, 3), repeat=8) if sum(parts) == 15]
        self.assertEqual(count_fitting(8, 60, self.CHAIN), len(books))
        self.assertEqual([nth_fitting(8, 60, self.CHAIN, number) for number in range(len(books))], books)
        self.assert_raises_with(InvalidNumber, len(books), nth_fitting, 8, 60, self.CHAIN, len(books))

    def test_first_and_last_book_without_a_chain(self):
        many = comb(59, 7)
        self.assertEqual(nth_fitting(8, 60, [], 0), [1] * 7 + [53])
        self.assertEqual(nth_fitting(8, 60, [], 1), [1] * 6 + [2, 52])
        self.assertEqual(nth_fitting(8, 60, [], many - 2), [52, 2] + [1] * 6)
        self.assertEqual(nth_fitting(8, 60, [], many - 1), [53] + [1] * 7)
        for number in (many, many + 1, GREAT, -1, -many, -GREAT):
            self.assert_raises_with(InvalidNumber, number, nth_fitting, 8, 60, [], number)

    def test_neighbouring_books(self):
        chain = [(2, 34), (4, 20), (8, 13), (16, 9)]
        many = count_fitting(8, 60, chain)
        self.assertGreater(many, 1000)
        for start in (0, many // 3, many - 50):
            books = [nth_fitting(8, 60, chain, number) for number in range(start, start + 50)]
            self.assertEqual(sorted(books), books)
            self.assertEqual(len({tuple(book) for book in books}), 50)
            for book in books:
                self.assertEqual([sum(book), len(book), chain_of(book, (2, 4, 8, 16))], [60, 8, chain])

    def test_first_and_last_books_of_great_chains(self):
        for chain in ([(1, 60), (2, 33), (4, 19), (8, 12)], [(2, 34), (4, 20), (8, 13), (16, 9)], [(7, 12)],
                      [(3, 24), (9, 11), (27, 8)], [(5, 16), (15, 9)], [(60, 8)], [(1, 60), (3, 25), (12, 10)]):
            many = count_fitting(8, 60, chain)
            first = [nth_fitting(8, 60, chain, number) for number in range(5)]
            last = [nth_fitting(8, 60, chain, number) for number in range(many - 5, many)]
            middle = [nth_fitting(8, 60, chain, number) for number in range(many // 2, many // 2 + 5)]
            books = first + middle + last
            self.assertEqual(sorted(books), books)
            self.assertEqual(len({tuple(book) for book in books}), 15)
            for book in books:
                self.assertEqual(chain_of(book, [size for size, _ in chain]), chain)
                self.assertEqual([sum(book), len(book)], [60, 8])
            for number in (-1, -many, many, many + 1, 10 * many, GREAT):
                self.assert_raises_with(InvalidNumber, number, nth_fitting, 8, 60, chain, number)

    def test_least_and_greatest_book(self):
        # The lengths less one have 2 ones, 3 twos and 3 fours in all, and 4 eights.
        chain = [(1, 60), (2, 33), (4, 19), (8, 12)]
        self.assertEqual(nth_fitting(8, 60, chain, 0), [1, 1, 1, 1, 1, 7, 8, 40])
        self.assertEqual(nth_fitting(8, 60, chain, 28 * 56 * 56 * 330 - 1), [40, 8, 7, 1, 1, 1, 1, 1])
        self.assertEqual(count_fitting(8, 60, chain), 28 * 56 * 56 * 330)

    def test_many_numbers_of_one_chain(self):
        chain = [(1, 60), (2, 33), (4, 19), (8, 12)]
        # It should take about 0.03 seconds, so that a machine may be ten times as slow.
        books = self.assert_ends_within(0.4, lambda: [nth_fitting(8, 60, chain, 10 ** 6 + k) for k in range(2000)])
        self.assertEqual(sorted(books), books)
        self.assertEqual(len({tuple(book) for book in books}), 2000)
        self.assertEqual([chain_of(book, (1, 2, 4, 8)) for book in books], [chain] * 2000)

    def test_a_call_leaves_nothing_for_the_next_one(self):
        calls = [(2, 4, [(2, 3)], 1), (3, 11, [(2, 7), (4, 4)], 8), (2, 4, [(2, 3)], 0), (8, 60, [(60, 8)], 77)]
        expected = [nth_fitting(*call) for call in calls]
        self.assertEqual([nth_fitting(*call) for call in calls[::-1]], expected[::-1])
        chain = [(2, 3)]
        self.assertEqual(nth_fitting(2, 4, chain, 1), [3, 1])
        chain[0] = (2, 2)
        self.assertEqual(nth_fitting(2, 4, chain, 0), [2, 2])

    def test_only_book(self):
        self.assertEqual(nth_fitting(1, 60, [(60, 1)], 0), [60])
        self.assertEqual(nth_fitting(3, 6, [(2, 3)], 0), [2, 2, 2])
        for number in (-1, 1):
            self.assert_raises_with(InvalidNumber, number, nth_fitting, 3, 6, [(2, 3)], number)

    def test_no_book(self):
        for number in (-1, 0, 1, GREAT):
            self.assert_raises_with(InvalidNumber, number, nth_fitting, 2, 4, [(1, 4), (2, 5)], number)

    def test_result_is_new(self):
        first = nth_fitting(2, 4, [(2, 3)], 1)
        first.append(9)
        self.assertEqual(nth_fitting(2, 4, [(2, 3)], 1), [3, 1])
        self.assertIs(type(first), list)


class Arguments(ProgramCase):
    def test_negative_numbers_of_chapters(self):
        for chapters in (-1, -2, -GREAT):
            for call in CALLS:
                self.assert_raises_with(InvalidNumber, chapters, call, chapters, 5, [])
                self.assert_raises_with(InvalidNumber, chapters, call, chapters, -7, [(0, 1)])
            self.assert_raises_with(InvalidNumber, chapters, nth_fitting, chapters, 5, [], 0)
            self.assert_raises_with(InvalidNumber, chapters, nth_fitting, chapters, -7, [(0, 1)], -9)

    def test_negative_numbers_of_lines(self):
        for lines in (-1, -2, -GREAT):
            for call in CALLS:
                self.assert_raises_with(InvalidNumber, lines, call, 0, lines, [])
                self.assert_raises_with(InvalidNumber, lines, call, 2, lines, [(2, 2), (3, 2)])
            self.assert_raises_with(InvalidNumber, lines, nth_fitting, 2, lines, [], 0)
            self.assert_raises_with(InvalidNumber, lines, nth_fitting, 2, lines, [(2, 2), (3, 2)], -9)

    def test_wrong_chains(self):
        for chain, index in WRONG_CHAINS:
            for chapters, lines in ((2, 9), (0, 0), (3, 2)):
                for call in CALLS:
                    self.assert_raises_with(InvalidChain, index, call, chapters, lines, chain)
                for number in (-1, 0):
                    self.assert_raises_with(InvalidChain, index, nth_fitting, chapters, lines, chain, number)

    def test_first_size_may_be_any(self):
        for size in (1, 2, 3, 60, GREAT):
            self.assertEqual(count_fitting(1, 1, [(size, 1)]), 1)

    def test_arguments_are_not_changed(self):
        chain = [(2, 3), (4, 2)]
        for call in CALLS:
            call(2, 4, chain)
        nth_fitting(2, 4, chain, 1)
        self.assertEqual(chain, [(2, 3), (4, 2)])

    def test_by_name(self):
        self.assertEqual(count_fitting(chain=[(2, 3)], lines=4, chapters=2), 2)
        self.assertEqual(contradiction(chain=[(1, 4), (2, 5)], lines=4, chapters=2), (0, 1))
        self.assertEqual(nth_fitting(number=1, chain=[(2, 3)], lines=4, chapters=2), [3, 1])

    def test_kinds_of_results(self):
        self.assertIs(type(count_fitting(2, 4, [(2, 3)])), int)
        self.assertIs(type(count_fitting(0, 0, [])), int)
        self.assertIs(type(contradiction(2, 4, [(1, 4), (2, 5)])), tuple)
        self.assertIs(type(contradiction(3, 2, [])), tuple)


if __name__ == "__main__":
    unittest.main()

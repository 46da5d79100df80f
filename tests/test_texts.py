import re
import unittest
from itertools import groupby, product

from cases import ProgramCase
from pagecounts.errors import Unreadable
from pagecounts.readings import read_book
from pagecounts.texts import show_book
from samples import GREAT, small_books

NUMBER = "[1-9][0-9]{0,39}"
TEXT = re.compile(f"(?:{NUMBER}x)?{NUMBER}(?: \\+ (?:{NUMBER}x)?{NUMBER})*")
SIGNS = "".join(chr(code) for code in range(32, 127))
TEXTS = ["empty", "5", "1", "12", "2x1", "2x3 + 4", "5 + 2x3 + 5", "10x10 + 1 + 10x10", "99 + 3x2", "12x5 + 2x6"]


def slow_show(book):
    groups = [(length, len(list(group))) for length, group in groupby(book)]
    return " + ".join(f"{many}x{length}" if many > 1 else f"{length}" for length, many in groups) or "empty"


def slow_read(text):
    """Return the book of a text, or None: the one whose text it is, of those that its numbers tell."""
    if text == "empty":
        return []
    if not TEXT.fullmatch(text):
        return None
    book = []
    for part in text.split(" + "):
        numbers = [int(word) for word in part.split("x")]
        if numbers[0] > 10 ** 6 and len(numbers) == 2:
            return None
        book.extend(numbers if len(numbers) == 1 else numbers[1:] * numbers[0])
    return book if slow_show(book) == text else None


def changed_texts(text):
    """Return all texts with one sign taken away, put in or replaced, or two neighbours exchanged."""
    found = {text[:at] + text[at + 1:] for at in range(len(text))}
    for at, sign in product(range(len(text) + 1), SIGNS):
        found.add(text[:at] + sign + text[at:])
        found.add(text[:at] + sign + text[at + 1:])
    for at in range(len(text) - 1):
        found.add(text[:at] + text[at + 1] + text[at] + text[at + 2:])
    return sorted(found)


class TextCase(ProgramCase):
    def check(self, text):
        """A text is read as the slow way reads it, and shown again if it is readable."""
        book = slow_read(text)
        if book is None:
            self.assert_unreadable(text)
        else:
            self.assertEqual(read_book(text), book, text)
            self.assertEqual(show_book(book), text)

    def assert_unreadable(self, text):
        self.assert_raises_with(Unreadable, text, read_book, text)


class ShowBook(ProgramCase):
    def test_examples(self):
        self.assertEqual(show_book([5, 3, 3, 5]), "5 + 2x3 + 5")
        self.assertEqual(show_book([]), "empty")

    def test_small_books(self):
        for book in small_books(5, 3):
            self.assertEqual(show_book(book), slow_show(book))

    def test_plain_texts(self):
        texts = {"1": [1], "2x1": [1, 1], "3x7": [7, 7, 7], "7 + 8": [7, 8], "2x7 + 8": [7, 7, 8],
                 "8 + 2x7": [8, 7, 7], "7 + 8 + 7": [7, 8, 7], "2x2": [2, 2], "2x12 + 2x2": [12, 12, 2, 2],
                 "1 + 11 + 1": [1, 11, 1], "40x3": [3] * 40}
        for text, book in texts.items():
            self.assertEqual([show_book(book), read_book(text)], [text, book])

    def test_great_lengths(self):
        self.assertEqual(show_book([GREAT]), "9" * 30)
        self.assertEqual(show_book([GREAT] * 40 + [10 ** 30]), "40x" + "9" * 30 + " + 1" + "0" * 30)

    def test_many_chapters(self):
        self.assertEqual(show_book([6] * 1000), "1000x6")
        self.assertEqual(show_book(list(range(1, 1001))), " + ".join(str(length) for length in range(1, 1001)))

    def test_kind_and_argument(self):
        book = [5, 3, 3]
        self.assertIs(type(show_book(book)), str)
        self.assertEqual(book, [5, 3, 3])
        self.assertEqual(show_book(book=[5, 5]), "2x5")


class ReadBook(TextCase):
    def test_examples(self):
        self.assertEqual(read_book("5 + 2x3 + 5"), [5, 3, 3, 5])
        self.assertEqual(read_book("empty"), [])
        self.assert_unreadable("3 + 3")

    def test_every_text_of_short_alphabets(self):
        for signs, longest in (("0123456789x+ ", 4), ("12x+ ", 7), ("012x+ ", 6), ("empty ", 5)):
            for length in range(longest + 1):
                for text in product(signs, repeat=length):
                    self.check("".join(text))

    def test_every_text_of_short_words(self):
        for length in range(1, 7):
            for words in product(("1", "2", "x", " + ", "2x1", "0"), repeat=length):
                self.check("".join(words))

    def test_texts_with_one_change(self):
        for text in TEXTS:
            for changed in changed_texts(text):
                self.check(changed)

    def test_texts_cut_off_and_put_together(self):
        for first, second in product(TEXTS, repeat=2):
            for between in (" + ", "", " ", "+", "x", " +", "+ ", "  + ", " +  ", "\t+ ", " + + ", " + x", "\n"):
                self.check(first + between + second)
        for text in TEXTS:
            for at in range(len(text)):
                self.check(text[:at])
                self.check(text[at:])

    def test_nothing_and_blanks(self):
        for text in ("", " ", "  ", "+", " + ", "x", "2x", "x3", "empty ", " empty", "Empty", "EMPTY", "empt",
                     "emptyempty", "empty + 3", "3 + empty", "0", "2xempty"):
            self.assert_unreadable(text)

    def test_blanks_and_signs_too_many_or_missing(self):
        for text in (" 5", "5 ", "5  + 3", "5 +  3", "5+3", "5 +3", "5+ 3", "5 + 3 + ", " + 5", "5 + ", "+ 5", "5 +",
                     "5 + + 3", "5 +  + 3", "2 x3", "2x 3", "2 x 3", "2xx3", "2x3x4", "x", "2X3", "2*3", "+5", "-5",
                     "5 + -3", "5 - 3", "5, 3", "[5, 3]", "5_0", "5.0", "1e3", "0x10", "2x+3", "5\n", "5 +\n3"):
            self.assert_unreadable(text)

    def test_other_digits(self):
        for text in ("\u0663", "\u00b2", "2x\u0663", "5 + \u0663", "\uff15"):
            self.assert_unreadable(text)

    def test_leading_zeros_and_zeros(self):
        for text in ("0", "00", "01", "05 + 3", "5 + 03", "02x3", "2x03", "0x3", "2x0", "0x0", "00x3", "5 + 0", "-0"):
            self.assert_unreadable(text)
        self.assertEqual(read_book("10x20"), [20] * 10)

    def test_single_chapters_and_neighbours(self):
        for text in ("1x3", "01x3", "5 + 1x3", "1x3 + 5", "1x1", "3 + 3", "2x3 + 3", "3 + 2x3", "2x3 + 2x3",
                     "5 + 3 + 3", "3 + 3 + 5", "5 + 2x3 + 3 + 5", "1 + 1"):
            self.assert_unreadable(text)
        self.assertEqual(read_book("3 + 33 + 3"), [3, 33, 3])
        self.assertEqual(read_book("2x3 + 3x2"), [3, 3, 2, 2, 2])

    def test_numbers_of_forty_and_more_digits(self):
        for digit in "19":
            long = digit * 40
            for text, book in ((long, [int(long)]), (f"2x{long}", [int(long)] * 2), (f"3 + {long}", [3, int(long)])):
                self.assertEqual([read_book(text), show_book(book)], [book, text])
            for wrong in (long + "0", "0" + long, long + long, "9" * 4000):
                for text in (wrong, f"2x{wrong}", f"3 + {wrong}", f"{wrong} + 3"):
                    self.assert_unreadable(text)

    def test_great_numbers_of_chapters_in_unreadable_texts(self):
        for many in ("9" * 40, "9" * 41, "9" * 3900, "1" + "0" * 18):
            for text in (f"{many}x0", f"{many}x", f"{many}x3 + 3", f"3 + {many}x3", f"{many}x3 + ", f"{many}x3x3",
                         f"{many}x3 + 5 + {many}x05", f" {many}x3"):
                self.assert_unreadable(text)

    def test_long_texts(self):
        for book in ([6] * 1000, list(range(1, 500)), [1, 2] * 450, [GREAT, 1] * 55, [3, 3, 4] * 300):
            text = slow_show(book)
            self.assertLessEqual(len(text), 4000)
            self.assertEqual([read_book(text), show_book(book)], [book, text])
            self.assert_unreadable(text + " + " + text.split(" + ")[-1])
            self.assert_unreadable(text[:-1] + "x")
        for text in ("5 + " * 1000, " " * 4000, "2x" * 2000, "1 + 2 + " * 499 + "1 + 1"):
            self.assert_unreadable(text)

    def test_shown_books_are_read(self):
        for book in small_books(5, 3) + [[GREAT] * 40, list(range(1, 41)), [GREAT - 1, GREAT]]:
            self.assertEqual(read_book(show_book(book)), book)

    def test_results_are_new(self):
        for text in ("empty", "5 + 2x3"):
            first = read_book(text)
            self.assertIs(type(first), list)
            first.append(9)
            self.assertNotEqual(read_book(text), first)

    def test_by_name(self):
        self.assertEqual(read_book(text="2x3"), [3, 3])
        with self.assertRaises(Unreadable) as caught:
            read_book(text="1x3")
        self.assertEqual(caught.exception.value, "1x3")


if __name__ == "__main__":
    unittest.main()

"""Books for the tests, and a slow model that lays a book out line by line."""

from itertools import combinations, product

GREAT = 10 ** 30 - 1
WRONG_BOOKS = [([0], 0), ([-3], 0), ([4, 0], 1), ([4, 1, -1, 0], 2), ([1, 1, 1, 0], 3), ([-GREAT, 5], 0)]


def small_books(most_chapters=3, longest=5):
    """Return every book with few and short chapters, the empty one too."""
    books = []
    for chapters in range(most_chapters + 1):
        books.extend(list(lengths) for lengths in product(range(1, longest + 1), repeat=chapters))
    return books


def books_with(chapters, lines):
    """Return every book with so many chapters and lines, in ascending order."""
    if chapters == 0 or lines < chapters:
        return [[]] if chapters == lines else []
    ends = [(0, *cuts, lines) for cuts in combinations(range(1, lines), chapters - 1)]
    return [[end - start for start, end in zip(row, row[1:])] for row in ends]


def slow_counts(book, sizes):
    """Return the page counts of some sizes, as the slow model has them."""
    return [len(layout(book, size)) for size in sizes]


def quick_counts(book, sizes):
    """Return the page counts of some sizes for lengths that are too great for the slow model."""
    return [sum(-(-length // size) for length in book) for size in sizes]


def layout(book, size):
    """Return the pages of an edition: a list of (chapter, line) for each one."""
    sheets = []
    for chapter, length in enumerate(book, start=1):
        sheet = []
        for line in range(1, length + 1):
            if len(sheet) == size:
                sheets.append(sheet)
                sheet = []
            sheet.append((chapter, line))
        sheets.append(sheet)
    return sheets

"""Books written as texts."""


def show_book(book):
    """Return the text of a book."""
    if not book:
        return "empty"
    parts = []
    many = 0
    for index, length in enumerate(book):
        many = many + 1
        if index + 1 == len(book) or book[index + 1] != length:
            parts.append(show_chapters(many, length))
            many = 0
    return " + ".join(parts)


def show_chapters(many, length):
    if many == 1:
        return str(length)
    return f"{many}x{length}"

"""Editions in which two books differ."""

from pagecounts.checks import check_book


def same_counts(first, second):
    """Return whether two books have the same page counts in all editions."""
    check_book(first)
    check_book(second)
    return sorted(first) == sorted(second)


def parting_size(first, second):
    """Return the greatest size for which the page counts of two books differ, or None."""
    check_book(first)
    check_book(second)
    # Books with unlike numbers of chapters differ in all editions with large pages.
    if len(first) != len(second):
        return None
    for one, other in zip(sorted(first, reverse=True), sorted(second, reverse=True)):
        if one != other:
            return max(one, other) - 1
    return None

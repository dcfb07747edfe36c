"""Rows one behind the other: what comes when one book follows another."""

from maymeet.exchanges import shortest
from maymeet.lets import farthest_from, lesser_ahead, places_of
from maymeet.rows import check_row, check_rows, swapped


def product(row, other):
    """Tell the farthest row of a book with farthest row row, followed by one with farthest row other."""
    check_rows(row, other)
    return farthest_from(row, shortest(other))


def needed_ahead(row, other):
    """Tell the least row that must lie below what stands ahead of other, so that row comes behind both."""
    check_rows(row, other)
    # With one meeting last, the row comes just where the lower of the row and its exchange came ahead.
    for gap in reversed(shortest(other)):
        if not lesser_ahead(row, gap):
            row = swapped(row, gap)
    return row


def needed_behind(row, first):
    """Tell the least row that must lie below what stands behind first, so that row comes behind both."""
    check_rows(row, first)
    # Read from their ends, the books stand the other way about.
    return back(needed_ahead(back(row), back(first)))


def back(row):
    """Tell the row whose person at each place is the place of that person in the row."""
    check_row(row)
    return places_of(row)

"""Which rows a book lets, by how few changes, and which of its meetings matter."""

from maymeet.rows import below, check_book, check_book_and_row, row_of, swapped, unlike_corner


def lesser_ahead(row, gap):
    """Tell whether the lesser of the two beside the gap stands ahead."""
    return row[gap] < row[gap + 1]


def farthest_from(row, book):
    """Tell the row to which always changing where the lesser stands ahead leads from the row."""
    for gap in book:
        if lesser_ahead(row, gap):
            row = swapped(row, gap)
    return row


def farthest(book, many):
    """Tell the row that comes where the two always change when the lesser stands ahead."""
    check_book(book, many)
    return farthest_from(row_of(many), book)


def lets(book, row):
    """Tell whether some going through the book leads to the row."""
    check_book_and_row(book, row)
    return below(row, farthest(book, len(row)))


def places_of(row):
    """Tell the place of each person, person by person."""
    return tuple(row.index(person) for person in range(len(row)))


def fewest(book, row):
    """Tell the least list of meetings to change at, of the fewest that lead to the row, or None."""
    check_book_and_row(book, row)
    # A change at a gap at the very beginning of what is left to do exchanges the people gap and
    # gap + 1 in the row; seen from the places of the people, it exchanges neighbours.
    left = places_of(row)
    changes = []
    for meeting, gap in enumerate(book):
        # Where the change brings the two into order, it is one of the fewest, and what is left
        # behind it can be done by the later meetings if anything can: so looking ahead is needless.
        if not lesser_ahead(left, gap):
            left = swapped(left, gap)
            changes.append(meeting)
    if left != row_of(len(row)):
        return None
    return changes


def why_not(book, row):
    """Tell the least corner that has more in the row than in the farthest row, or None."""
    check_book_and_row(book, row)
    return unlike_corner(row, farthest(book, len(row)))


def same(book, other, many):
    """Tell whether two books let the same rows."""
    return farthest(book, many) == farthest(other, many)


def needless(book, many):
    """Tell the meetings each of which can be left out alone without a loss of rows."""
    far = farthest(book, many)
    return [k for k in range(len(book)) if farthest(book[:k] + book[k + 1:], many) == far]


def kept(book, many):
    """Tell the book of the meetings that change the farthest row of the kept ones ahead of them."""
    check_book(book, many)
    row = row_of(many)
    gaps = []
    for gap in book:
        if lesser_ahead(row, gap):
            row = swapped(row, gap)
            gaps.append(gap)
    return tuple(gaps)

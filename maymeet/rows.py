"""Rows of people, books of meetings, goings through a book, and the corners of a row."""

from maymeet.errors import NoBook, NoGap, NoGoing, NoMany, NoNumber, NoRow, TooMany, Unlike

MOST_PEOPLE = 9
MOST_GONE_THROUGH = 6


def is_whole(thing):
    """Tell whether thing is a whole number."""
    # Python counts True and False among the ints; the document does not.
    return isinstance(thing, int) and not isinstance(thing, bool)


def is_many(thing):
    """Tell whether thing is a number of people."""
    return is_whole(thing) and 1 <= thing <= MOST_PEOPLE


def is_gap(thing, many):
    """Tell whether thing is a gap of a row of so many people."""
    return is_whole(thing) and 0 <= thing <= many - 2


def is_row(thing):
    """Tell of anything whether it is a row."""
    if not isinstance(thing, tuple) or not is_many(len(thing)):
        return False
    # Without this (0, True) and (0.0, 1) would pass, for they equal (0, 1).
    if not all(is_whole(person) for person in thing):
        return False
    return sorted(thing) == list(range(len(thing)))


def check_many(many):
    """Refuse what is no number of people."""
    if not is_many(many):
        raise NoMany()


def is_book(thing, many):
    """Tell of anything whether it is a book of so many people."""
    check_many(many)
    return isinstance(thing, tuple) and all(is_gap(gap, many) for gap in thing)


def check_row(row):
    """Refuse what is no row."""
    if not is_row(row):
        raise NoRow()


def check_book(book, many):
    """Refuse a wrong number of people, as is_book does, and behind it what is no book of so many."""
    if not is_book(book, many):
        raise NoBook()


def check_book_and_row(book, row):
    """Refuse, behind what is no row, what is no book of as many people."""
    check_row(row)
    check_book(book, len(row))


def check_gap(gap, many):
    """Refuse what is no gap of a row of so many people."""
    if not is_gap(gap, many):
        raise NoGap()


def check_rows(row, other):
    """Refuse what is no row, then rows of other many people."""
    check_row(row)
    check_row(other)
    if len(row) != len(other):
        raise Unlike()


def check_number(number):
    """Refuse what is no whole number from 0 on."""
    if not is_whole(number) or number < 0:
        raise NoNumber()


def check_few(many):
    """Refuse more people than all of whose rows may be gone through."""
    if many > MOST_GONE_THROUGH:
        raise TooMany(many)


def check_row_of_few(row):
    """Refuse what is no row, or one of too many people."""
    check_row(row)
    check_few(len(row))


def row_of(many):
    """Tell the row of so many people in order."""
    check_many(many)
    return tuple(range(many))


def turned(row):
    """Tell of how many pairs the greater stands ahead."""
    check_row(row)
    people = len(row)
    return sum(1 for i in range(people) for k in range(i + 1, people) if row[i] > row[k])


def swapped(row, gap):
    """Tell the row with the two beside the gap exchanged, of a row and a gap that are known to be such."""
    return row[:gap] + (row[gap + 1], row[gap]) + row[gap + 2:]


def changed(row, gap):
    """Tell the row with the two beside the gap exchanged."""
    check_row(row)
    check_gap(gap, len(row))
    return swapped(row, gap)


def is_going(thing, book):
    """Tell whether thing is a going through the book."""
    if not isinstance(thing, tuple) or len(thing) != len(book):
        return False
    return all(isinstance(change, bool) for change in thing)


def gone(book, many, going):
    """Tell the rows that come by the going, from the row in order on."""
    check_book(book, many)
    if not is_going(going, book):
        raise NoGoing()
    rows = [row_of(many)]
    for gap, change in zip(book, going):
        row = rows[-1]
        rows.append(swapped(row, gap) if change else row)
    return rows


def corners(row):
    """Tell, i by i and j by j, how many of the first i people have a number of j or more."""
    check_row(row)
    line = [0] * (len(row) + 1)
    lines = [line]
    for person in row:
        line = [have + 1 if j <= person else have for j, have in enumerate(line)]
        lines.append(line)
    return lines


def unlike_corner(row, other):
    """Tell the least corner that has more in row than in other, or None."""
    check_rows(row, other)
    places = range(len(row) + 1)
    mine = corners(row)
    theirs = corners(other)
    for i in places:
        for j in places:
            if mine[i][j] > theirs[i][j]:
                return (i, j)
    return None


def below(row, other):
    """Tell whether no corner of row has more than that of other."""
    return unlike_corner(row, other) is None

"""People of kinds, many of whom may be alike, and far books, at whose meetings any two places may be told."""

from itertools import permutations

from maymeet.between import above, with_changed
from maymeet.errors import NoFar, NoKinds, Unlike
from maymeet.lets import farthest_from, lets, places_of
from maymeet.rows import below, check_book, check_few, check_many, is_many, is_whole, row_of, turned


def is_kinds(thing):
    """Tell of anything whether it is a row of kinds."""
    if not isinstance(thing, tuple) or not is_many(len(thing)):
        return False
    return all(is_whole(kind) and kind >= 0 for kind in thing)


def check_kinds(kinds):
    """Refuse what is no row of kinds."""
    if not is_kinds(kinds):
        raise NoKinds()


def check_first_and_book(first, book):
    """Refuse what is no row of kinds that rises, and behind it what is no book of as many people."""
    check_kinds(first)
    if list(first) != sorted(first):
        raise NoKinds()
    check_book(book, len(first))


def people_of(kinds):
    """Tell the row of people of these kinds in which those of one kind stand rising."""
    by_person = sorted(range(len(kinds)), key=lambda place: kinds[place])
    return places_of(tuple(by_person))


def kinds_let(book, first, kinds):
    """Tell whether some going through the book leads from the first row of kinds to these."""
    check_first_and_book(first, book)
    check_kinds(kinds)
    if sorted(kinds) != list(first):
        raise Unlike()
    # Of the rows of people of these kinds, this one lies below all: where any is let, it is.
    return lets(book, people_of(kinds))


def kinds_farthest(book, first):
    """Tell the row of kinds to which always changing where the lesser kind stands ahead leads."""
    check_first_and_book(first, book)
    return farthest_from(first, book)


def is_far_meeting(thing, many):
    """Tell of anything whether it is a tuple of two places of a row of so many people, the lesser ahead."""
    if not isinstance(thing, tuple) or len(thing) != 2:
        return False
    place, other = thing
    return is_whole(place) and is_whole(other) and 0 <= place < other < many


def check_far(book, many):
    """Refuse what is no number of people, no far book of so many, or too many people."""
    check_many(many)
    if not isinstance(book, tuple) or not all(is_far_meeting(meeting, many) for meeting in book):
        raise NoFar()
    check_few(many)


def far_rows(book, many):
    """Tell all rows that come by some going through the far book, rising."""
    check_far(book, many)
    come = {row_of(many): True}
    for place, other in book:
        for row in list(come):
            come[with_changed(row, place, other)] = True
    return sorted(come)


def from_the_most_on(many):
    """Tell all rows of so many people, by turned pairs from the most on, then as tuples."""
    rows = list(permutations(range(many)))
    return sorted(rows, key=lambda row: (-turned(row), row))


def is_under(row, rows):
    """Tell whether the row lies below one of the rows that has one turned pair more."""
    return any(up in rows for up in above(row))


def with_those_below(come, many):
    """Tell the rows that come or lie below one that does, by turned pairs from the most on."""
    reached = {}
    # From each row a chain leads up to each row that it lies below, so the next ones above tell enough.
    for row in from_the_most_on(many):
        if row in come or is_under(row, reached):
            reached[row] = True
    return list(reached)


def far_fails(book, many):
    """Tell None where the rows that come are those below one of them, else two rows at which this fails."""
    come = {row: True for row in far_rows(book, many)}
    missing = [row for row in with_those_below(come, many) if row not in come]
    if missing:
        first = min(missing, key=lambda row: (turned(row), row))
        return (first, max([row for row in come if below(first, row)]))
    # Nothing is missing, so the chain from one row that comes up to another is made of rows that come.
    highest = [row for row in from_the_most_on(many) if row in come and not is_under(row, come)]
    if len(highest) > 1:
        return (highest[0], highest[1])
    return None

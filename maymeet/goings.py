"""How many goings lead to a row, and what they have in common; of at most six people."""

from itertools import zip_longest

from maymeet.errors import NoNumber
from maymeet.rows import check_book, check_book_and_row, check_few, check_number, row_of, swapped

# Goings are counted row by row, for there may be 2 ** 60 of them, but at most 720 rows.


def led_on(ways, gap):
    """Tell, row by row, how many goings there are behind one meeting more, from those ahead of it."""
    after = {row: ways[row] for row in ways}
    for row in ways:
        other = swapped(row, gap)
        after[other] = after.get(other, 0) + ways[row]
    return after


def ways_from(row, book):
    """Tell the list, meeting by meeting, of how many goings lead from the row to each row."""
    ways = [{row: 1}]
    for gap in book:
        ways.append(led_on(ways[-1], gap))
    return ways


def ways_ahead(book, many):
    """Tell at k how many goings through the first k meetings lead to each row."""
    return ways_from(row_of(many), book)


def ways_behind(book, row):
    """Tell at k how many goings through the meetings from k on lead from each row to this one."""
    # A change undoes itself, so the way back from the row is gone by the meetings read from the end.
    return ways_from(row, book[::-1])[::-1]


def check_asked(book, row):
    """Refuse what is no row, no book, or of too many people."""
    check_book_and_row(book, row)
    check_few(len(row))


def goings(book, row):
    """Tell how many goings through the book lead to the row."""
    check_asked(book, row)
    return ways_ahead(book, len(row))[-1].get(row, 0)


def with_one_more(staying, changing):
    """Add up two lists of counts by changes, the second one moved on by one change."""
    return [stay + change for stay, change in zip_longest(staying, [0] + changing, fillvalue=0)]


def spread_on(spreads, gap):
    """Tell, row by row, the counts by changes behind one meeting more, from those ahead of it."""
    after = {}
    for row in spreads:
        other = swapped(row, gap)
        if other not in after:
            across = spreads.get(other, [])
            after[row] = with_one_more(spreads[row], across)
            after[other] = with_one_more(across, spreads[row])
    return after


def by_changes(book, row):
    """Tell, by changes, how many of the goings that lead to the row have so many, more than none."""
    check_asked(book, row)
    spreads = {row_of(len(row)): [1]}
    for gap in book:
        spreads = spread_on(spreads, gap)
    return [(changes, many) for changes, many in enumerate(spreads.get(row, [])) if many > 0]


def nth(book, row, number):
    """Tell the number-th, from 0, of the goings that lead to the row."""
    check_book_and_row(book, row)
    check_number(number)
    check_few(len(row))
    ways = ways_behind(book, row)
    here = row_of(len(row))
    if number >= ways[0].get(here, 0):
        raise NoNumber()
    going = []
    for meeting, gap in enumerate(book):
        staying = ways[meeting + 1].get(here, 0)
        change = number >= staying
        if change:
            number = number - staying
            here = swapped(here, gap)
        going.append(change)
    return tuple(going)


def musts(book, row):
    """Tell at which meetings all goings that lead to the row change, and at which none; None of no going."""
    check_asked(book, row)
    ahead = ways_ahead(book, len(row))
    if row not in ahead[-1]:
        return None
    behind = ways_behind(book, row)
    always = []
    never = []
    for meeting, gap in enumerate(book):
        rows = ahead[meeting]
        after = behind[meeting + 1]
        if not any(here in after for here in rows):
            always.append(meeting)
        if not any(swapped(here, gap) in after for here in rows):
            never.append(meeting)
    return (always, never)


def ends(book, many):
    """Tell all rows that are let, rising, each with how many goings lead there."""
    check_book(book, many)
    check_few(many)
    ways = ways_ahead(book, many)[-1]
    return [(row, ways[row]) for row in sorted(ways)]

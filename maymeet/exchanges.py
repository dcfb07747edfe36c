"""Steps that exchange meetings of a book, the shortest books of a row, and the ways to and between these."""

from maymeet.errors import NoNumber, NoStep, NotOne
from maymeet.lets import farthest, lesser_ahead, places_of, same
from maymeet.rows import (MOST_PEOPLE, check_book, check_few, check_number, check_row, check_row_of_few, is_whole,
                          row_of, swapped, turned)

FAR = "far"
THREE = "three"
ONCE = "once"


def word_at(book, place):
    """Tell the word of the step that can be done at the place, or None; there is never more than one."""
    here = book[place:place + 3]
    if len(here) < 2:
        return None
    apart = abs(here[0] - here[1])
    if apart > 1:
        return FAR
    if apart == 0:
        return ONCE
    if len(here) == 3 and here[0] == here[2]:
        return THREE
    return None


def steps(book):
    """Tell the steps (place, word) that can be done, rising."""
    check_book(book, MOST_PEOPLE)
    words = [(place, word_at(book, place)) for place in range(len(book))]
    return [(place, word) for place, word in words if word is not None]


def is_step(thing, book):
    """Tell of anything whether it is a step that can be done in the book."""
    if not isinstance(thing, tuple) or len(thing) != 2:
        return False
    place, word = thing
    if not is_whole(place) or not 0 <= place < len(book):
        return False
    # None is no word, though word_at tells it where no step can be done.
    return isinstance(word, str) and word == word_at(book, place)


def stepped(book, step):
    """Tell the book behind the step."""
    check_book(book, MOST_PEOPLE)
    if not is_step(step, book):
        raise NoStep()
    place, word = step
    here = book[place]
    beside = book[place + 1]
    if word == FAR:
        return book[:place] + (beside, here) + book[place + 2:]
    if word == THREE:
        return book[:place] + (beside, here, beside) + book[place + 3:]
    return book[:place] + (here,) + book[place + 2:]


def shortest(row):
    """Tell the shortest book of the row that is made of runs, one for each person."""
    check_row(row)
    book = ()
    for person in range(len(row)):
        low = sum(1 for ahead in row[:row.index(person)] if ahead < person)
        book = book + tuple(range(person - 1, low - 1, -1))
    return book


def with_one_meeting_more(counts):
    """Tell how many shortest books the rows with one turned pair more have, from those of the rows with one less."""
    longer = {}
    for row in counts:
        for gap in range(len(row) - 1):
            if lesser_ahead(row, gap):
                other = swapped(row, gap)
                longer[other] = longer.get(other, 0) + counts[row]
    return longer


def shortest_counts(row):
    """Tell at k, up to the row's turned pairs, how many shortest books each row with k turned pairs has."""
    counts = [{row_of(len(row)): 1}]
    for _ in range(turned(row)):
        counts.append(with_one_meeting_more(counts[-1]))
    return counts


def many_shortest(row):
    """Tell how many shortest books the row has."""
    check_row_of_few(row)
    return shortest_counts(row)[-1][row]


def nth_shortest(row, number):
    """Tell the number-th, from 0, of the shortest books of the row, as tuples rise."""
    check_row(row)
    check_number(number)
    check_few(len(row))
    counts = shortest_counts(row)
    if number >= counts[-1][row]:
        raise NoNumber()
    # A meeting at the very beginning exchanges neighbours among the places of the people. These have
    # as many shortest books as the row, for they are the row of each of its books read from the end.
    left = places_of(row)
    book = []
    for fewer in reversed(counts[:-1]):
        gap = 0
        # No book begins with a gap that leads to more turned pairs: such rows are none of the fewer.
        while number >= fewer.get(swapped(left, gap), 0):
            number = number - fewer.get(swapped(left, gap), 0)
            gap = gap + 1
        left = swapped(left, gap)
        book.append(gap)
    return tuple(book)


def is_shortest(book, many):
    """Tell whether no book with fewer meetings lets the same rows."""
    return turned(farthest(book, many)) == len(book)


def brought_ahead(place, to):
    """Tell the steps that bring the meeting at a place ahead to another place, past meetings far from it."""
    return [(at, FAR) for at in range(place - 1, to - 1, -1)]


def taken_in(lows, gap):
    """Tell the steps by which one meeting behind the runs becomes part of them, and change the runs alike.

    The run of a person goes down to lows[person]; it is empty where that is the person's own number.
    """
    place = sum([person - low for person, low in enumerate(lows)])
    told = []
    person = len(lows) - 1
    while gap < lows[person] - 1 or gap > lows[person]:
        begin = place - (person - lows[person])
        if gap < lows[person]:
            told.extend(brought_ahead(place, begin))
        else:
            # The run has the gap, too, and the gap below it: these two and the meeting become three
            # others, of which the first is far from all that stands ahead of it in the run.
            alike = begin + (person - 1 - gap)
            told.extend(brought_ahead(place, alike + 2))
            told.append((alike, THREE))
            told.extend(brought_ahead(alike, begin))
            gap = gap - 1
        place = begin
        person = person - 1
    if gap == lows[person]:
        told.append((place - 1, ONCE))
    else:
        lows[person] = gap
    return told


def led_down(book, many):
    """Tell steps by which the book becomes the shortest one of runs that lets the same rows."""
    check_book(book, many)
    lows = list(range(many))
    told = []
    for gap in book:
        told.extend(taken_in(lows, gap))
    return told


def led_over(book, other, many):
    """Tell steps "far" and "three" by which the one of two shortest books of a row becomes the other."""
    if not same(book, other, many) or not is_shortest(book, many) or not is_shortest(other, many):
        raise NotOne()
    # Both are led to the same book of runs, and a step "far" or "three", done again, undoes itself.
    return led_down(book, many) + led_down(other, many)[::-1]

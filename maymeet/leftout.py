"""Leavings: meetings that may be left out of a book, while a row can still come, and how they are exchanged."""

from maymeet.errors import NoLeaving, NoNumber, NoPlace, NotLet, TooMany
from maymeet.lets import farthest_from, lesser_ahead, lets, places_of
from maymeet.rows import below, is_whole, row_of, swapped, turned


def check_let(book, row):
    """Refuse what is no row, no book of as many people, or a book that does not let the row."""
    if not lets(book, row):
        raise NotLet()


def is_of_meetings(thing, book):
    """Tell of anything whether it is a tuple of numbers of meetings of the book, rising."""
    if not isinstance(thing, tuple) or not all(is_whole(meeting) for meeting in thing):
        return False
    return all(0 <= meeting < len(book) for meeting in thing) and list(thing) == sorted(set(thing))


def still_lets(book, row, leaving):
    """Tell whether the row can come without these meetings."""
    return lets(tuple([gap for meeting, gap in enumerate(book) if meeting not in leaving]), row)


def check_greatest(leaving, book, row):
    """Refuse what is none of the greatest leavings."""
    # A leaving to which none can be added leaves just the meetings at which the row's pairs are turned.
    if not is_of_meetings(leaving, book) or len(leaving) != len(book) - turned(row):
        raise NoLeaving()
    if not still_lets(book, row, leaving):
        raise NoLeaving()


def check_most(most):
    """Refuse what is no whole number from 1 on."""
    if not is_whole(most) or most < 1:
        raise NoNumber()


def is_left(book, row, leaving):
    """Tell whether the row can come without these meetings."""
    check_let(book, row)
    if not is_of_meetings(leaving, book):
        raise NoLeaving()
    return still_lets(book, row, leaving)


def farthest_behind(book, many):
    """Tell at k the farthest row of the meetings from k on, read from the end."""
    rows = [row_of(many)]
    for gap in reversed(book):
        rows.append(farthest_from(rows[-1], (gap,)))
    return rows[::-1]


def with_meeting(found, meeting, gap, behind):
    """Tell, by what is left to do behind the meeting, the leavings so far, from those ahead of it."""
    after = {}
    for left in found:
        turns = not lesser_ahead(left, gap)
        if turns:
            after.setdefault(swapped(left, gap), []).extend(found[left])
        # Where the change would lead away from the row, the later meetings can do what is left without it.
        if not turns or below(left, behind):
            after.setdefault(left, []).extend([leaving + (meeting,) for leaving in found[left]])
    return after


def all_greatest(book, row, most):
    """Tell the greatest leavings, rising, of what is known to be let; refuse more than most."""
    behind = farthest_behind(book, len(row))
    # As in fewest, a change at the beginning of what is left to do exchanges neighbours among the places.
    found = {places_of(row): [()]}
    for meeting, gap in enumerate(book):
        found = with_meeting(found, meeting, gap, behind[meeting + 1])
        # Each of these can be led on to the end, so there are as many at the end, at the least.
        if sum([len(leavings) for leavings in found.values()]) > most:
            raise TooMany(most)
    return sorted(found[row_of(len(row))])


def greatest_left(book, row, *, most=1000):
    """Tell the leavings to which no meeting can be added, rising."""
    check_let(book, row)
    check_most(most)
    return all_greatest(book, row, most)


def exchanges_of(book, many, leaving):
    """Tell the exchanges (out, into) of one of the greatest leavings, rising."""
    row = row_of(many)
    meets = []
    changed_at = {}
    for meeting, gap in enumerate(book):
        pair = tuple(sorted(row[gap:gap + 2]))
        if meeting in leaving:
            meets.append((meeting, pair))
        else:
            changed_at[pair] = meeting
            row = swapped(row, gap)
    # No pair changes twice. With a change more at one meeting the same row comes only where the other
    # change of the same two people is left out for it.
    return [(out, changed_at[pair]) for out, pair in meets if pair in changed_at]


def exchanged(leaving, out, into):
    """Tell the leaving in which one meeting is left out in place of another one."""
    return tuple(sorted([into if meeting == out else meeting for meeting in leaving]))


def in_place(book, row, leaving, meeting):
    """Tell the one other meeting that can be left out in place of this one, or None."""
    check_let(book, row)
    check_greatest(leaving, book, row)
    if not is_whole(meeting) or meeting not in leaving:
        raise NoPlace()
    for out, into in exchanges_of(book, len(row), leaving):
        if out == meeting:
            return into
    return None


def distances(book, many, goal):
    """Tell of each of the greatest leavings by how few exchanges it is led to the goal."""
    far = {goal: 0}
    edge = [goal]
    while edge:
        later = []
        for here in edge:
            for out, into in exchanges_of(book, many, here):
                there = exchanged(here, out, into)
                if there not in far:
                    far[there] = far[here] + 1
                    later.append(there)
        edge = later
    return far


def first_nearer(book, many, leaving, far):
    """Tell the least exchange (out, into) that leads to where it is less far."""
    nearer = [(out, into) for out, into in exchanges_of(book, many, leaving)
              if far[exchanged(leaving, out, into)] < far[leaving]]
    return nearer[0]


def led_left(book, row, leaving, other, *, most=1000):
    """Tell the least list of the fewest exchanges that lead from one of the greatest leavings to another."""
    check_let(book, row)
    check_greatest(leaving, book, row)
    check_greatest(other, book, row)
    check_most(most)
    all_greatest(book, row, most)
    many = len(row)
    # An exchange done the other way about leads back, so these are also the ways to the other one.
    far = distances(book, many, other)
    told = []
    while leaving != other:
        told.append(first_nearer(book, many, leaving, far))
        out, into = told[-1]
        leaving = exchanged(leaving, out, into)
    return told

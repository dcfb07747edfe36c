"""A desk at which a book is changed meeting by meeting, while its farthest row is asked for in between."""

from itertools import permutations

from maymeet.errors import NoPlace, Unlike
from maymeet.lets import farthest_from
from maymeet.rows import below, check_few, check_gap, check_many, check_row, is_whole, row_of

MOST_MEETINGS = 40


def check_place(place, behind):
    """Refuse what is no place ahead of the told one."""
    if not is_whole(place) or not 0 <= place < behind:
        raise NoPlace()


class Desk:
    """A book of so many people that is told meeting by meeting."""

    def __init__(self, many):
        check_many(many)
        self._many = many
        self._gaps = []
        # The farthest rows ahead of the first meeting, behind it, and so on, as far as they are still known.
        self._rows = [row_of(many)]
        self._at_last_news = row_of(many)
        self._gone_on = 0

    def put(self, place, gap):
        """Put a meeting in ahead of the one at the place, or at the end."""
        long = len(self._gaps)
        if long >= MOST_MEETINGS:
            raise NoPlace()
        check_place(place, long + 1)
        check_gap(gap, self._many)
        self._gaps.insert(place, gap)
        self._forget_behind(place)

    def take(self, place):
        """Take the meeting at the place out."""
        check_place(place, len(self._gaps))
        del self._gaps[place]
        self._forget_behind(place)

    def turn(self, place, gap):
        """Give the meeting at the place this gap."""
        check_place(place, len(self._gaps))
        check_gap(gap, self._many)
        self._gaps[place] = gap
        self._forget_behind(place)

    def book(self):
        """Tell the book as it is now."""
        return tuple(self._gaps)

    def farthest(self):
        """Tell the farthest row of the book."""
        unknown = self._gaps[len(self._rows) - 1:]
        for gap in unknown:
            self._rows.append(farthest_from(self._rows[-1], (gap,)))
        self._gone_on += len(unknown)
        return self._rows[-1]

    def lets(self, row):
        """Tell whether the book lets the row."""
        check_row(row)
        if len(row) != self._many:
            raise Unlike()
        return below(row, self.farthest())

    def news(self):
        """Tell the rows that are let now and were not at the last asking, and those the other way about."""
        check_few(self._many)
        then = self._at_last_news
        now = self.farthest()
        self._at_last_news = now
        rows = list(permutations(range(self._many)))
        come = [row for row in rows if below(row, now) and not below(row, then)]
        gone = [row for row in rows if below(row, then) and not below(row, now)]
        return (come, gone)

    def looked(self):
        """Tell how many rows the desk has gone on by one meeting so far."""
        return self._gone_on

    def _forget_behind(self, place):
        """Forget the rows behind the meeting at the place, for there the book is another one."""
        del self._rows[place + 1:]

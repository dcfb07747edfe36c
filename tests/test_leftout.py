"""Point [26], and [2], [4] and [8] as far as they speak of it."""

import inspect
import itertools
import unittest

from maymeet.errors import NoBook, NoLeaving, NoNumber, NoPlace, NoRow, NotLet, TooMany
from maymeet.exchanges import shortest
from maymeet.leftout import greatest_left, in_place, is_left, led_left
from maymeet.lets import farthest, lets
from maymeet.rows import turned
from tests.plain import (NO_BOOK, NO_ROW, NO_WHOLE, Refusing, Within, all_rows, by_row, gone_rows, mixed_books,
                         plain_farthest, small_books)

NINE = (0, 1, 2, 3, 4, 5, 6, 7, 8)

# The book 0, 1, 0, 1 of three people, for the row 1, 0, 2: one of the meetings 0 and 2 is kept.
BOOK = (0, 1, 0, 1)
ROW = (1, 0, 2)
LEFT = (1, 2, 3)
OTHER = (0, 1, 3)

# None of these is a tuple of numbers of meetings of BOOK, rising.
NO_NUMBERS = [
    None, True, False, 0, 1, 1.5, "", "013", b"\x00", [], [0], [0, 1, 3], {}, {0: 1}, {0, 1, 3}, range(3), object(), len,
    (4,), (-1,), (0, 4), (-1, 0, 1), (0, 1, 10 ** 20), (True,), (False, 1, 3), (0, True, 3), (0.0, 1, 3), (0, 1, 3.0),
    ("0", "1", "3"), (None,), (0, None, 3), ((0, 1, 3),), ([0], 1, 3), (1, 0), (3, 1, 0), (0, 0), (0, 1, 1), (1, 1, 3),
]

# These are such tuples, but none of the greatest leavings of BOOK for ROW.
NOT_GREATEST = [(), (0,), (1,), (0, 1), (1, 3), (0, 2), (0, 2, 3), (0, 1, 2), (0, 1, 2, 3)]

NO_MOST = [thing for thing in NO_WHOLE if type(thing) is not int] + [0, -1, -10 ** 19]


def subsets(meetings):
    """All sets of meetings, as tuples, rising."""
    numbers = range(meetings)
    return sorted(left for long in range(meetings + 1) for left in itertools.combinations(numbers, long))


def plain_leavings(book, many):
    """By row, all leavings, by going through all goings that stay at them."""
    told = {}
    for row, goings in by_row(book, many).items():
        stays = [{meeting for meeting, change in enumerate(going) if not change} for going in goings]
        told[row] = [left for left in subsets(len(book)) if any(stay.issuperset(left) for stay in stays)]
    return told


def plain_greatest(leavings, meetings):
    known = set(leavings)
    return [left for left in leavings
            if not any(tuple(sorted({*left, one})) in known for one in range(meetings) if one not in left)]


def plain_in_place(greatest, leaving, meeting):
    """All other meetings that make one of the greatest leavings in its place."""
    rest = set(leaving) - {meeting}
    return [one for left in greatest for one in left if set(left) - {one} == rest and one not in leaving]


def plain_led(greatest, leaving, other):
    """The least of the shortest lists of exchanges, by all lists of one exchange more and more."""
    lists = {leaving: []}
    while other not in lists:
        longer = {}
        for left, told in lists.items():
            for there in greatest:
                out = set(left) - set(there)
                into = set(there) - set(left)
                if len(out) == 1:
                    more = told + [(out.pop(), into.pop())]
                    longer[there] = min(longer.get(there, more), more)
        lists = longer
    return lists[other]


def some_books(many):
    """Small books, fewer of the longer ones."""
    books = small_books(many)
    return books if many < 4 else books[::9]


class Told(unittest.TestCase):
    def test_greatest_left(self):
        self.assertEqual(greatest_left(BOOK, ROW), [OTHER, LEFT])
        self.assertEqual(greatest_left(BOOK, (2, 1, 0)), [(0,), (3,)])
        self.assertEqual(greatest_left(BOOK, (0, 1, 2)), [(0, 1, 2, 3)])
        self.assertEqual(greatest_left((), (0,)), [()])
        self.assertEqual(greatest_left((), NINE), [()])
        self.assertEqual(greatest_left((0, 0, 0), (1, 0)), [(0, 1), (0, 2), (1, 2)])

    def test_in_place(self):
        self.assertEqual(in_place(BOOK, ROW, LEFT, 2), 0)
        self.assertEqual(in_place(BOOK, ROW, OTHER, 0), 2)
        self.assertIsNone(in_place(BOOK, ROW, LEFT, 1))
        self.assertIsNone(in_place(BOOK, ROW, LEFT, 3))
        self.assertEqual(in_place(BOOK, (2, 1, 0), (0,), 0), 3)

    def test_is_left(self):
        self.assertIs(is_left(BOOK, ROW, ()), True)
        self.assertIs(is_left(BOOK, ROW, (1, 3)), True)
        self.assertIs(is_left(BOOK, ROW, LEFT), True)
        self.assertIs(is_left(BOOK, ROW, (0, 2)), False)
        self.assertIs(is_left(BOOK, ROW, (0, 1, 2, 3)), False)
        self.assertIs(is_left((), (0,), ()), True)

    def test_led_left(self):
        self.assertEqual(led_left(BOOK, ROW, LEFT, LEFT), [])
        self.assertEqual(led_left(BOOK, ROW, LEFT, OTHER), [(2, 0)])
        self.assertEqual(led_left((0, 0, 0, 0), (1, 0), (0, 1, 2), (1, 2, 3)), [(0, 3)])
        self.assertEqual(led_left((), (0,), (), ()), [])

    def test_the_least_of_the_fewest(self):
        # Two pairs of people change once each, each at one of two meetings: either exchange may be the first.
        self.assertEqual(led_left((0, 2, 0, 2), (1, 0, 3, 2), (0, 1), (2, 3)), [(0, 2), (1, 3)])
        self.assertEqual(led_left((0, 2, 0, 2), (1, 0, 3, 2), (2, 3), (0, 1)), [(2, 0), (3, 1)])

    def test_most(self):
        book = (0,) * 8
        self.assertEqual(len(greatest_left(book, (1, 0))), 8)
        self.assertEqual(len(greatest_left(book, (1, 0), most=8)), 8)
        self.assertEqual(len(greatest_left(book, (1, 0), most=10 ** 20 - 1)), 8)
        ends = tuple(range(7)), tuple(range(1, 8))
        self.assertEqual(led_left(book, (1, 0), *ends, most=8), [(0, 7)])

    def test_most_goes_by_its_name_alone(self):
        for call in (greatest_left, led_left):
            most = inspect.signature(call).parameters["most"]
            self.assertEqual(most.kind, inspect.Parameter.KEYWORD_ONLY)
            self.assertEqual(most.default, 1000)
        with self.assertRaises(TypeError):
            greatest_left(BOOK, ROW, 1000)
        with self.assertRaises(TypeError):
            led_left(BOOK, ROW, LEFT, OTHER, 1000)


class SmallCases(unittest.TestCase):
    """Held against a plain going through all sets of meetings."""

    def cases(self):
        for many in range(1, 5):
            for book in some_books(many):
                if len(book) < 7:
                    for row, leavings in plain_leavings(book, many).items():
                        yield book, row, leavings, plain_greatest(leavings, len(book))

    def test_greatest_left(self):
        for book, row, _, greatest in self.cases():
            self.assertEqual(greatest_left(book, row), greatest)
            self.assertEqual({len(left) for left in greatest}, {len(book) - turned(row)})

    def test_is_left(self):
        for book, row, leavings, _ in self.cases():
            for left in subsets(len(book)):
                self.assertIs(is_left(book, row, left), left in leavings)

    def test_in_place(self):
        for book, row, _, greatest in self.cases():
            everywhere = True
            for left in greatest:
                for meeting in left:
                    places = plain_in_place(greatest, left, meeting)
                    self.assertEqual([in_place(book, row, left, meeting)], places or [None])
                    everywhere = everywhere and bool(places)
            if len(book) > turned(row):
                self.assertIs(everywhere, row == plain_farthest(book, len(row)))

    def test_led_left(self):
        for book, row, _, greatest in self.cases():
            if 1 < len(greatest) < 8 or len(book) == 6:
                for left in greatest[:5]:
                    for other in greatest[-5:]:
                        self.assertEqual(led_left(book, row, left, other), plain_led(greatest, left, other))

    def test_only_the_greatest_are_exchanged(self):
        for book, row, _, greatest in self.cases():
            if len(book) == 4:
                for left in set(subsets(4)) - set(greatest):
                    with self.assertRaises(NoLeaving):
                        in_place(book, row, left, left[0] if left else 0)
                    with self.assertRaises(NoLeaving):
                        led_left(book, row, greatest[0], left)


class Long(unittest.TestCase):
    def greatest_or_none(self, book, row):
        """The greatest leavings, or none where there are more than a thousand."""
        try:
            return greatest_left(book, row)
        except TooMany as error:
            self.assertEqual(error.many, 1000)
            return []

    def test_sixty_meetings_of_nine_people(self):
        told = {}
        with Within(120):
            for book in mixed_books(9, 60, 3):
                for row in (farthest(book, 9), NINE, (1, 0) + NINE[2:], (8,) + NINE[:8]):
                    if lets(book, row):
                        told[book, row] = self.greatest_or_none(book, row)
            self.assertGreater(len([greatest for greatest in told.values() if len(greatest) > 1]), 2)
            for (book, row), greatest in told.items():
                self.assertEqual(greatest, sorted(set(greatest)))
                self.assertTrue(all(len(left) == 60 - turned(row) for left in greatest))
                self.assertTrue(all(is_left(book, row, left) for left in greatest))

    def test_a_shortest_book_and_some_meetings_more(self):
        with Within(60):
            row = NINE[::-1]
            book = shortest(row)
            self.assertEqual(greatest_left(book, row), [()])
            longer = book + book[:7]
            greatest = greatest_left(longer, row)
            self.assertGreater(len(greatest), 20)
            for left in greatest[::9]:
                exchanged = [in_place(longer, row, left, meeting) for meeting in left]
                self.assertNotIn(None, exchanged)
                for out, into in zip(left, exchanged):
                    self.assertIn(tuple(sorted({*left, into} - {out})), greatest)
            told = led_left(longer, row, greatest[0], greatest[-1])
            here = greatest[0]
            for out, into in told:
                self.assertEqual(in_place(longer, row, here, out), into)
                here = tuple(sorted({*here, into} - {out}))
            self.assertEqual(here, greatest[-1])

    def test_a_thousand_and_one_more(self):
        with Within(60):
            # One of 40 meetings and one of 25 are kept: a thousand leavings in all.
            book = (0,) * 40 + (2,) * 25
            row = (1, 0, 3, 2)
            greatest = greatest_left(book, row)
            self.assertEqual(len(greatest), 1000)
            self.assertEqual(led_left(book, row, greatest[0], greatest[-1]), [(0, 39), (40, 64)])
            with self.assertRaises(TooMany):
                greatest_left(book + (0,), row)
            self.assertEqual(len(greatest_left(book + (0,), row, most=1025)), 1025)

    def test_too_many_to_be_gone_through(self):
        with Within(60):
            book = (0, 1, 2, 3, 4, 5, 6, 7) * 7
            with self.assertRaises(TooMany):
                greatest_left(book, (1, 0, 3, 2, 5, 4, 7, 6, 8))
            with self.assertRaises(TooMany):
                greatest_left((0,) * 60, (1, 0), most=59)
            self.assertEqual(in_place((0,) * 60, (1, 0), tuple(range(59)), 58), 59)


class Refused(Refusing, unittest.TestCase):
    def every(self, error, book, row, leaving=LEFT, other=OTHER, meeting=2, most=1000):
        """Ask all of them, so far as they take what is handed in."""
        told = [self.refused(error, greatest_left, book, row, most=most),
                self.refused(error, led_left, book, row, leaving, other, most=most)]
        self.refused(error, in_place, book, row, leaving, meeting)
        self.refused(error, is_left, book, row, leaving)
        return told

    def test_no_row(self):
        for row in NO_ROW:
            self.every(NoRow, BOOK, row)

    def test_no_book(self):
        for book in NO_BOOK:
            self.every(NoBook, book, ROW)
        self.every(NoBook, BOOK, (1, 0))

    def test_not_let(self):
        self.every(NotLet, (), ROW)
        self.every(NotLet, (0, 1), (2, 0, 1))
        self.every(NotLet, (0,) * 60, (0, 2, 1))
        self.every(NotLet, (1, 2, 3, 4, 5, 6, 7) * 8, (1, 0) + NINE[2:])

    def test_no_leaving(self):
        for left in NO_NUMBERS:
            self.refused(NoLeaving, is_left, BOOK, ROW, left)
        for left in NO_NUMBERS + NOT_GREATEST:
            self.refused(NoLeaving, in_place, BOOK, ROW, left, 1)
            self.refused(NoLeaving, led_left, BOOK, ROW, left, OTHER)
            self.refused(NoLeaving, led_left, BOOK, ROW, LEFT, left)
        for left in NOT_GREATEST:
            self.assertIn(is_left(BOOK, ROW, left), (True, False))

    def test_no_place(self):
        for meeting in NO_WHOLE + [0, -1, 4, 10 ** 20]:
            if meeting != 1 or type(meeting) is not int:
                self.refused(NoPlace, in_place, BOOK, ROW, LEFT, meeting)
        self.refused(NoPlace, in_place, (), (0,), (), 0)

    def test_no_number(self):
        for most in NO_MOST:
            self.refused(NoNumber, greatest_left, BOOK, ROW, most=most)
            self.refused(NoNumber, led_left, BOOK, ROW, LEFT, OTHER, most=most)

    def test_too_many(self):
        for most in (1, 2, 7):
            self.assertEqual(self.refused(TooMany, greatest_left, (0,) * 8, (1, 0), most=most), most)
            ends = tuple(range(7)), tuple(range(1, 8))
            self.assertEqual(self.refused(TooMany, led_left, (0,) * 8, (1, 0), *ends, most=most), most)
            self.assertEqual(self.refused(TooMany, led_left, (0,) * 8, (1, 0), ends[0], ends[0], most=most), most)

    def test_the_order_of_refusals(self):
        self.every(NoRow, None, (0, 0), leaving=None, most=0)
        self.every(NoBook, (5,), ROW, leaving=None, most=0)
        self.every(NotLet, (1,), ROW, leaving=None, other=None, meeting=True, most=0)
        self.refused(NoLeaving, in_place, BOOK, ROW, (0, 2), 1.5)
        self.refused(NoLeaving, led_left, BOOK, ROW, (0, 2), OTHER, most=0)
        self.refused(NoLeaving, led_left, BOOK, ROW, LEFT, None, most=True)
        self.refused(NoNumber, led_left, BOOK, ROW, LEFT, OTHER, most=0)
        self.refused(TooMany, led_left, BOOK, ROW, LEFT, OTHER, most=1)
        self.refused(NotLet, greatest_left, (1,), ROW, most="1")


class Books(unittest.TestCase):
    def test_each_row_that_comes_has_a_leaving(self):
        for many in (2, 3, 4):
            for book in mixed_books(many, 5, 10):
                for row in all_rows(many):
                    if row in gone_rows(book, many):
                        self.assertIs(is_left(book, row, greatest_left(book, row)[-1]), True)
                    else:
                        with self.assertRaises(NotLet):
                            is_left(book, row, ())


if __name__ == "__main__":
    unittest.main()

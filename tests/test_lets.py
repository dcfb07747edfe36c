"""Points [9], [10], [11], and [4] and [8] as far as they speak of these."""

import unittest

from maymeet.errors import NoBook, NoMany, NoRow
from maymeet.lets import farthest, fewest, kept, lets, needless, same, why_not
from maymeet.rows import gone, turned
from tests.plain import (NO_BOOK, NO_MANY, NO_ROW, Refusing, Within, all_books, all_rows, gone_rows, least_unlike,
                         meetings_of, mixed_books, plain_farthest, small_books, small_cases, turned_pairs)

NINE = (0, 1, 2, 3, 4, 5, 6, 7, 8)


def plain_fewest(goings):
    """The least list of meetings among the goings with the fewest changes."""
    least = min(sum(going) for going in goings)
    return min(meetings_of(going) for going in goings if sum(going) == least)


def left_out(book, meeting):
    return book[:meeting] + book[meeting + 1:]


class Told(unittest.TestCase):
    def test_farthest(self):
        self.assertEqual(farthest((), 1), (0,))
        self.assertEqual(farthest((), 9), NINE)
        self.assertEqual(farthest((0, 1, 0, 1), 3), (2, 1, 0))
        self.assertEqual(farthest((0, 0), 2), (1, 0))
        self.assertEqual(farthest((0, 1, 2), 4), (1, 2, 3, 0))
        self.assertEqual(farthest((2, 1, 0), 4), (3, 0, 1, 2))

    def test_lets(self):
        self.assertIs(lets((), (0,)), True)
        self.assertIs(lets((), (0, 1)), True)
        self.assertIs(lets((), (1, 0)), False)
        self.assertIs(lets((0, 1), (1, 2, 0)), True)
        self.assertIs(lets((0, 1), (2, 0, 1)), False)

    def test_fewest_is_the_least_list(self):
        self.assertEqual(fewest((0, 0, 0), (1, 0)), [0])
        self.assertEqual(fewest((0, 0, 0), (0, 1)), [])
        self.assertEqual(fewest((0, 1, 0, 1), (2, 1, 0)), [0, 1, 2])
        self.assertEqual(fewest((1, 0, 1, 0), (1, 2, 0)), [1, 2])
        self.assertEqual(fewest((0, 2, 0, 2), (1, 0, 3, 2)), [0, 1])
        self.assertIsNone(fewest((0, 1), (2, 1, 0)))
        self.assertEqual(fewest((), (0,)), [])
        self.assertIsNone(fewest((), (1, 0)))

    def test_why_not(self):
        self.assertIsNone(why_not((0, 1), (1, 2, 0)))
        self.assertEqual(why_not((0, 1), (2, 0, 1)), (1, 2))
        self.assertEqual(why_not((), (1, 0)), (1, 1))
        self.assertIsNone(why_not((), (0,)))

    def test_same(self):
        self.assertIs(same((), (), 1), True)
        self.assertIs(same((0, 1, 0), (1, 0, 1), 3), True)
        self.assertIs(same((0, 0), (0,), 2), True)
        self.assertIs(same((0, 1), (1, 0), 3), False)
        self.assertIs(same((), (0,), 2), False)

    def test_needless(self):
        self.assertEqual(needless((), 1), [])
        self.assertEqual(needless((0,), 2), [])
        self.assertEqual(needless((0, 0), 2), [0, 1])
        self.assertEqual(needless((0, 1, 0, 1), 3), [0, 3])
        self.assertEqual(needless((0, 1, 0), 3), [])

    def test_kept(self):
        self.assertEqual(kept((), 1), ())
        self.assertEqual(kept((0, 1, 0, 1), 3), (0, 1, 0))
        self.assertEqual(kept((0, 0, 1, 1, 0, 0), 3), (0, 1, 0))
        self.assertEqual(kept((1, 0, 1, 0), 3), (1, 0, 1))
        self.assertIs(type(kept((0,), 2)), tuple)


class SmallCases(unittest.TestCase):
    """All that is told, held against a plain going through all goings."""

    def test_farthest_and_lets_and_why_not(self):
        for many, book, told in small_cases():
            far = plain_farthest(book, many)
            self.assertEqual(farthest(book, many), far)
            for row in all_rows(many):
                self.assertIs(lets(book, row), row in told)
                self.assertEqual(why_not(book, row), None if row in told else least_unlike(row, far))
                self.assertIs(why_not(book, row) is None, row in told)

    def test_fewest(self):
        for many, book, told in small_cases():
            for row in all_rows(many):
                changes = fewest(book, row)
                self.assertEqual(changes, plain_fewest(told[row]) if row in told else None)
                if changes is not None:
                    self.assertEqual(len(changes), turned_pairs(row))

    def test_same(self):
        for many, meetings in [(2, 4), (3, 4), (4, 3)]:
            books = [book for long in range(meetings + 1) for book in all_books(many, long)]
            let = {book: gone_rows(book, many) for book in books}
            for book in books:
                for other in books:
                    self.assertIs(same(book, other, many), let[book] == let[other])

    def test_needless(self):
        for many in range(1, 5):
            books = [book for book in small_books(many) if len(book) <= 4] + (mixed_books(many, 8, 5) if many > 1 else [])
            for book in books:
                let = gone_rows(book, many)
                alone = [k for k in range(len(book)) if gone_rows(left_out(book, k), many) == let]
                self.assertEqual(needless(book, many), alone)

    def test_kept(self):
        for many, book, _ in small_cases():
            ahead = []
            for gap in book:
                if plain_farthest((*ahead, gap), many) != plain_farthest(ahead, many):
                    ahead.append(gap)
            self.assertEqual(kept(book, many), tuple(ahead))
            self.assertEqual(len(ahead), turned_pairs(plain_farthest(book, many)))


class LongBooks(unittest.TestCase):
    """Nine people and up to sixty meetings are answered in few steps."""

    def books(self):
        whole = tuple(gap for far in range(8) for gap in range(far, -1, -1))
        yield (0,) * 60
        yield whole + whole[:24]
        yield tuple(range(8)) * 7 + (0, 1, 2, 3)
        for meetings in (40, 60):
            yield from mixed_books(9, meetings, 4)

    def rows(self, book):
        yield farthest(book, 9)
        for step in (2, 3, 5):
            yield gone(book, 9, tuple(k % step == 0 for k in range(len(book))))[-1]

    def test_rows_that_come(self):
        with Within(60):
            for book in self.books():
                for row in self.rows(book):
                    self.assertIs(lets(book, row), True)
                    self.assertIsNone(why_not(book, row))
                    changes = fewest(book, row)
                    self.assertEqual(len(changes), turned(row))
                    self.assertEqual(changes, sorted(set(changes)))
                    going = tuple(k in changes for k in range(len(book)))
                    self.assertEqual(gone(book, 9, going)[-1], row)

    def test_rows_that_do_not_come(self):
        with Within(60):
            for book in self.books():
                row = NINE[::-1]
                if farthest(book, 9) != row:
                    self.assertIs(lets(book, row), False)
                    self.assertIsNone(fewest(book, row))
                    self.assertEqual(why_not(book, row), least_unlike(row, farthest(book, 9)))

    def test_needless_and_kept(self):
        with Within(60):
            for book in self.books():
                far = plain_farthest(book, 9)
                self.assertEqual(farthest(book, 9), far)
                alone = [k for k in range(len(book)) if plain_farthest(left_out(book, k), 9) == far]
                self.assertEqual(needless(book, 9), alone)
                less = kept(book, 9)
                self.assertEqual(len(less), turned(far))
                self.assertEqual(farthest(less, 9), far)
                self.assertIs(same(book, less, 9), True)
                self.assertEqual(needless(less, 9), [])

    def test_the_whole_row_is_turned(self):
        whole = tuple(gap for far in range(8) for gap in range(far, -1, -1))
        self.assertEqual(farthest(whole, 9), NINE[::-1])
        self.assertEqual(kept(whole + whole[:24], 9), whole)
        self.assertEqual(fewest(whole + whole[:24], NINE[::-1]), list(range(36)))


class Refused(Refusing, unittest.TestCase):
    def test_book_and_many(self):
        for call in (farthest, needless, kept):
            for many in NO_MANY:
                self.refused(NoMany, call, (), many)
            for book in NO_BOOK:
                self.refused(NoBook, call, book, 3)
            self.refused(NoBook, call, (0,), 1)
            self.refused(NoMany, call, [0], 10)

    def test_two_books(self):
        for many in NO_MANY:
            self.refused(NoMany, same, (), (), many)
        for book in NO_BOOK:
            self.refused(NoBook, same, book, (0,), 3)
            self.refused(NoBook, same, (0,), book, 3)
        self.refused(NoMany, same, (9,), None, False)

    def test_book_and_row(self):
        for call in (lets, fewest, why_not):
            for row in NO_ROW:
                self.refused(NoRow, call, (), row)
            for book in NO_BOOK:
                self.refused(NoBook, call, book, (2, 0, 1))
            self.refused(NoBook, call, (0,), (0,))
            self.refused(NoBook, call, (1,), (0, 1))

    def test_no_row_goes_ahead_of_no_book(self):
        for call in (lets, fewest, why_not):
            self.refused(NoRow, call, [0], [0, 1])
            self.refused(NoRow, call, (5,), (0, 2))
            self.refused(NoRow, call, None, None)


if __name__ == "__main__":
    unittest.main()

"""Points [12], [13], and [4] and [8] as far as they speak of these."""

import unittest

from maymeet.errors import NoBook, NoMany, NoNumber, NoRow, TooMany
from maymeet.goings import by_changes, ends, goings, musts, nth
from maymeet.lets import farthest, fewest, lets
from maymeet.rows import gone, turned
from tests.plain import (NO_BOOK, NO_MANY, NO_ROW, NO_WHOLE, Refusing, Within, all_rows, mixed_books, small_cases,
                         turned_pairs)

SIX = (0, 1, 2, 3, 4, 5)
SEVEN = (0, 1, 2, 3, 4, 5, 6)


def plain_by_changes(told):
    counts = {}
    for going in told:
        counts[sum(going)] = counts.get(sum(going), 0) + 1
    return sorted(counts.items())


def plain_musts(told, meetings):
    always = [k for k in range(meetings) if all(going[k] for going in told)]
    never = [k for k in range(meetings) if not any(going[k] for going in told)]
    return (always, never)


class Told(unittest.TestCase):
    def test_goings(self):
        self.assertEqual(goings((), (0,)), 1)
        self.assertEqual(goings((), (1, 0)), 0)
        self.assertEqual(goings((0, 0), (0, 1)), 2)
        self.assertEqual(goings((0, 1, 0), (1, 0, 2)), 2)
        self.assertEqual(goings((0, 1, 0), (2, 1, 0)), 1)
        self.assertEqual(goings((0, 1), (2, 0, 1)), 0)

    def test_by_changes(self):
        self.assertEqual(by_changes((), (0,)), [(0, 1)])
        self.assertEqual(by_changes((), (1, 0)), [])
        self.assertEqual(by_changes((0, 0, 0), (1, 0)), [(1, 3), (3, 1)])
        self.assertEqual(by_changes((0, 0, 0), (0, 1)), [(0, 1), (2, 3)])
        self.assertEqual(by_changes((0, 1), (2, 0, 1)), [])

    def test_nth(self):
        self.assertEqual(nth((), (0,), 0), ())
        self.assertEqual(nth((0, 0), (1, 0), 0), (False, True))
        self.assertEqual(nth((0, 0), (1, 0), 1), (True, False))
        self.assertIs(type(nth((0, 0), (1, 0), 0)), tuple)
        for change in nth((0, 0), (1, 0), 0):
            self.assertIs(type(change), bool)

    def test_musts(self):
        self.assertEqual(musts((), (0,)), ([], []))
        self.assertIsNone(musts((), (1, 0)))
        self.assertEqual(musts((0,), (1, 0)), ([0], []))
        self.assertEqual(musts((0,), (0, 1)), ([], [0]))
        self.assertEqual(musts((0, 0), (1, 0)), ([], []))
        self.assertEqual(musts((0, 1, 0), (1, 2, 0)), ([0, 1], [2]))
        self.assertIsNone(musts((0, 1), (2, 0, 1)))
        self.assertIs(type(musts((0,), (1, 0))), tuple)

    def test_ends(self):
        self.assertEqual(ends((), 1), [((0,), 1)])
        self.assertEqual(ends((), 3), [((0, 1, 2), 1)])
        self.assertEqual(ends((0, 0), 2), [((0, 1), 2), ((1, 0), 2)])
        self.assertEqual(ends((1, 0), 3), [((0, 1, 2), 1), ((0, 2, 1), 1), ((1, 0, 2), 1), ((2, 0, 1), 1)])


class SmallCases(Refusing, unittest.TestCase):
    """All that is told, held against a plain going through all goings."""

    def test_goings_and_by_changes(self):
        for many, book, told in small_cases():
            for row in all_rows(many):
                self.assertEqual(goings(book, row), len(told.get(row, [])))
                self.assertEqual(by_changes(book, row), plain_by_changes(told.get(row, [])))

    def test_musts(self):
        for many, book, told in small_cases():
            for row in all_rows(many):
                expected = plain_musts(told[row], len(book)) if row in told else None
                self.assertEqual(musts(book, row), expected)

    def test_nth(self):
        for many, book, told in small_cases():
            for row in list(told)[::2]:
                numbers = range(len(told[row]))
                if len(numbers) > 8:
                    numbers = [*range(3), len(numbers) // 2, len(numbers) - 2, len(numbers) - 1]
                for number in numbers:
                    self.assertEqual(nth(book, row, number), told[row][number])

    def test_nth_behind_the_last(self):
        for book in mixed_books(4, 6, 10):
            for row in all_rows(4):
                self.refused(NoNumber, nth, book, row, goings(book, row))
                self.refused(NoNumber, nth, book, row, 10 ** 20)

    def test_ends(self):
        for many, book, told in small_cases():
            self.assertEqual(ends(book, many), sorted((row, len(told[row])) for row in told))


class Sums(unittest.TestCase):
    def test_parity_of_changes_is_that_of_turned_pairs(self):
        for many in (2, 3, 4, 5, 6):
            for book in mixed_books(many, 12, 3):
                for row, ways in ends(book, many):
                    told = by_changes(book, row)
                    self.assertEqual(sum(count for _, count in told), ways)
                    self.assertEqual(told, sorted(told))
                    self.assertEqual(told[0][0], turned(row))
                    for changes, count in told:
                        self.assertEqual((changes - turned(row)) % 2, 0)
                        self.assertGreater(count, 0)

    def test_all_goings_are_two_to_the_number_of_meetings(self):
        for many in (2, 3, 4, 5, 6):
            for meetings in (0, 1, 7, 40, 60):
                for book in mixed_books(many, meetings, 1):
                    told = ends(book, many)
                    self.assertEqual(sum(ways for _, ways in told), 2 ** meetings)
                    self.assertEqual(told, sorted(told))

    def test_ends_are_the_rows_that_are_let(self):
        for many in (2, 3, 4, 5):
            for book in mixed_books(many, 9, 3):
                self.assertEqual([row for row, _ in ends(book, many)], [row for row in all_rows(many) if lets(book, row)])


class LongBooks(Refusing, unittest.TestCase):
    """Six people and up to sixty meetings are answered without going through the goings one by one."""

    def books(self):
        yield from mixed_books(6, 40, 2)
        yield from mixed_books(6, 60, 2)

    def test_numbered_goings(self):
        with Within(120):
            for book in self.books():
                for row in (SIX, farthest(book, 6), (1, 0, 3, 2, 5, 4)):
                    ways = goings(book, row)
                    self.assertGreater(ways, 0)
                    told = [nth(book, row, number) for number in (0, 1, ways // 2, ways - 2, ways - 1) if number < ways]
                    self.assertEqual(told, sorted(set(told)))
                    for going in told:
                        self.assertEqual(gone(book, 6, going)[-1], row)
                    self.refused(NoNumber, nth, book, row, ways)

    def test_the_first_going_has_no_other_ahead(self):
        book = (0, 1, 2, 3, 4) * 12
        self.assertEqual(nth(book, SIX, 0), (False,) * 60)

    def test_changes_and_musts(self):
        with Within(120):
            for book in self.books():
                row = farthest(book, 6)
                told = by_changes(book, row)
                self.assertEqual(told[0][0], turned_pairs(row))
                self.assertEqual(sum(count for _, count in told), goings(book, row))
                always, never = musts(book, row)
                self.assertEqual([k for k in always if k in never], [])
                least = fewest(book, row)
                self.assertEqual([k for k in always if k not in least], [])
                self.assertEqual([k for k in never if k in least], [])

    def test_one_gap_alone(self):
        book = (2,) * 60
        self.assertEqual(goings(book, SIX), 2 ** 59)
        self.assertEqual(ends(book, 6), [(SIX, 2 ** 59), ((0, 1, 3, 2, 4, 5), 2 ** 59)])
        self.assertEqual(by_changes(book, SIX)[:2], [(0, 1), (2, 1770)])
        self.assertEqual(by_changes(book, SIX)[-1], (60, 1))
        self.assertEqual(nth(book, SIX, 2 ** 59 - 1), (True,) * 60)
        self.assertEqual(nth(book, SIX, 1), (False,) * 58 + (True,) * 2)
        self.assertEqual(musts(book, SIX), ([], []))
        self.assertEqual(musts(book + (0,), SIX), ([], [60]))
        self.assertEqual(musts((1, *book), (0, 2, 1, 3, 4, 5)), ([0], []))


class Refused(Refusing, unittest.TestCase):
    CALLS = (goings, by_changes, musts)

    def test_no_row(self):
        for row in NO_ROW:
            for call in self.CALLS:
                self.refused(NoRow, call, (), row)
            self.refused(NoRow, nth, (), row, 0)

    def test_no_book(self):
        for book in NO_BOOK:
            for call in self.CALLS:
                self.refused(NoBook, call, book, (2, 0, 1))
            self.refused(NoBook, nth, book, (2, 0, 1), 0)
            self.refused(NoBook, ends, book, 3)
        self.refused(NoBook, ends, (0,), 1)
        self.refused(NoBook, goings, (0,), (0,))

    def test_no_many(self):
        for many in NO_MANY:
            self.refused(NoMany, ends, (), many)

    def test_no_number(self):
        for number in NO_WHOLE + [-1, -10 ** 20]:
            self.refused(NoNumber, nth, (0, 0), (0, 1), number)
        self.refused(NoNumber, nth, (0, 0), (0, 1), 2)
        self.refused(NoNumber, nth, (), (0,), 1)
        self.refused(NoNumber, nth, (), (1, 0), 0)

    def test_too_many_people(self):
        for row in (SEVEN, SEVEN[::-1], SEVEN + (7,), SEVEN + (7, 8)):
            for call in self.CALLS:
                self.assertEqual(self.refused(TooMany, call, (), row), len(row))
                self.assertEqual(self.refused(TooMany, call, (5, 0), row), len(row))
            self.assertEqual(self.refused(TooMany, nth, (), row, 0), len(row))
            self.assertEqual(self.refused(TooMany, ends, (), len(row)), len(row))

    def test_six_people_are_not_too_many(self):
        self.assertEqual(goings((4,), (0, 1, 2, 3, 5, 4)), 1)
        self.assertEqual(by_changes((4,), (0, 1, 2, 3, 5, 4)), [(1, 1)])
        self.assertEqual(nth((4,), (0, 1, 2, 3, 5, 4), 0), (True,))
        self.assertEqual(musts((4,), (0, 1, 2, 3, 5, 4)), ([0], []))
        self.assertEqual(ends((4,), 6), [(SIX, 1), ((0, 1, 2, 3, 5, 4), 1)])

    def test_the_order_of_refusals(self):
        for call in self.CALLS:
            self.refused(NoRow, call, [9], [0])
            self.refused(NoBook, call, (6,), SEVEN)
        self.refused(NoRow, nth, None, None, None)
        self.refused(NoBook, nth, (6,), SEVEN, -1)
        self.refused(NoNumber, nth, (), SEVEN, -1)
        self.refused(NoNumber, nth, (), SEVEN, True)
        self.refused(NoNumber, nth, (), SEVEN, "0")
        self.refused(TooMany, nth, (), SEVEN, 1)
        self.refused(TooMany, nth, (), SEVEN, 10 ** 19)
        self.refused(NoMany, ends, [0], 10)
        self.refused(NoBook, ends, (6,), 7)


if __name__ == "__main__":
    unittest.main()

"""Points [5], [6], [7] and [8] for rows, books, goings and corners."""

import itertools
import unittest

from maymeet.errors import NoBook, NoGap, NoGoing, NoMany, NoRow, Unlike
from maymeet.rows import below, changed, corners, gone, is_book, is_row, row_of, turned, unlike_corner
from tests.plain import (NO_BOOK, NO_GOING, NO_MANY, NO_ROW, NO_WHOLE, Refusing, all_goings, all_rows, by_row, corner,
                         exchanged, least_unlike, mixed_books, turned_pairs)

NINE = (0, 1, 2, 3, 4, 5, 6, 7, 8)


class IsRow(unittest.TestCase):
    def test_all_rows(self):
        for many in range(1, 7):
            for row in all_rows(many):
                self.assertIs(is_row(row), True)

    def test_one_and_nine_people(self):
        self.assertIs(is_row((0,)), True)
        self.assertIs(is_row(NINE), True)
        self.assertIs(is_row(NINE[::-1]), True)

    def test_no_rows(self):
        for thing in NO_ROW:
            with self.subTest(thing=repr(thing)[:80]):
                self.assertIs(is_row(thing), False)

    def test_just_the_rows_among_small_tuples(self):
        for long in range(5):
            for thing in itertools.product(range(-1, 5), repeat=long):
                self.assertIs(is_row(thing), long > 0 and sorted(thing) == list(range(long)))

    def test_deep_things(self):
        thing = ()
        for _ in range(40):
            thing = (thing,)
        self.assertIs(is_row(thing), False)
        self.assertIs(is_book(thing, 3), False)


class IsBook(Refusing, unittest.TestCase):
    def test_books(self):
        for many in range(2, 10):
            self.assertIs(is_book((), many), True)
            self.assertIs(is_book(tuple(range(many - 1)), many), True)
            self.assertIs(is_book((many - 2,) * 60, many), True)
            self.assertIs(is_book((many - 1,), many), False)
            self.assertIs(is_book((0, -1), many), False)

    def test_one_person_has_the_empty_book_alone(self):
        self.assertIs(is_book((), 1), True)
        self.assertIs(is_book((0,), 1), False)
        self.assertIs(is_book((-1,), 1), False)

    def test_long_books(self):
        for meetings in (40, 60):
            for book in mixed_books(9, meetings, 3):
                self.assertIs(is_book(book, 9), True)

    def test_no_books(self):
        for thing in NO_BOOK:
            with self.subTest(thing=repr(thing)[:80]):
                self.assertIs(is_book(thing, 3), False)

    def test_no_number_of_people_is_refused_whatever_the_thing_is(self):
        for many in NO_MANY:
            for thing in [(), (0,), (1, 0), *NO_BOOK]:
                self.refused(NoMany, is_book, thing, many)
            self.refused(NoMany, is_book, many=many, thing=())


class RowOf(Refusing, unittest.TestCase):
    def test_in_order(self):
        self.assertEqual(row_of(1), (0,))
        self.assertEqual(row_of(3), (0, 1, 2))
        self.assertEqual(row_of(9), NINE)
        for many in range(1, 10):
            self.assertIs(type(row_of(many)), tuple)
            self.assertIs(is_row(row_of(many)), True)

    def test_no_many(self):
        for many in NO_MANY:
            self.refused(NoMany, row_of, many)


class Turned(Refusing, unittest.TestCase):
    def test_told(self):
        self.assertEqual(turned((0,)), 0)
        self.assertEqual(turned((0, 1, 2)), 0)
        self.assertEqual(turned((2, 0, 1)), 2)
        self.assertEqual(turned((2, 1, 0)), 3)
        self.assertEqual(turned(NINE), 0)
        self.assertEqual(turned(NINE[::-1]), 36)

    def test_all_small_rows(self):
        for many in range(1, 6):
            for row in all_rows(many):
                self.assertEqual(turned(row), turned_pairs(row))

    def test_no_row(self):
        for thing in NO_ROW:
            self.refused(NoRow, turned, thing)


class Changed(Refusing, unittest.TestCase):
    def test_told(self):
        self.assertEqual(changed((0, 1), 0), (1, 0))
        self.assertEqual(changed((2, 0, 1), 0), (0, 2, 1))
        self.assertEqual(changed((2, 0, 1), 1), (2, 1, 0))
        self.assertEqual(changed(NINE, 7), (0, 1, 2, 3, 4, 5, 6, 8, 7))

    def test_all_small_rows(self):
        for many in range(2, 6):
            for row in all_rows(many):
                for gap in range(many - 1):
                    self.assertEqual(changed(row, gap), exchanged(row, gap))
                    self.assertIs(type(changed(row, gap)), tuple)

    def test_no_row(self):
        for thing in NO_ROW:
            self.refused(NoRow, changed, thing, 0)

    def test_no_gap(self):
        for gap in NO_WHOLE + [-1, 2, 3, 10 ** 20]:
            self.refused(NoGap, changed, (0, 1, 2), gap)
        self.refused(NoGap, changed, NINE, 8)
        self.refused(NoGap, changed, (0, 1), 1)

    def test_one_person_has_no_gap(self):
        for gap in (-1, 0, 1):
            self.refused(NoGap, changed, (0,), gap)

    def test_no_row_goes_ahead_of_no_gap(self):
        self.refused(NoRow, changed, [0, 1], -1)
        self.refused(NoRow, changed, (), True)


class Gone(Refusing, unittest.TestCase):
    def test_told(self):
        self.assertEqual(gone((0, 1, 0), 3, (True, False, True)), [(0, 1, 2), (1, 0, 2), (1, 0, 2), (0, 1, 2)])
        self.assertEqual(gone((0, 1, 0), 3, (True, True, True)), [(0, 1, 2), (1, 0, 2), (1, 2, 0), (2, 1, 0)])
        self.assertEqual(gone((0, 1), 3, (False, False)), [(0, 1, 2)] * 3)

    def test_empty_going(self):
        self.assertEqual(gone((), 1, ()), [(0,)])
        self.assertEqual(gone((), 4, ()), [(0, 1, 2, 3)])
        self.assertEqual(gone((), 9, ()), [NINE])

    def test_one_more_than_meetings_and_each_one_on(self):
        for book in mixed_books(9, 60, 3):
            going = tuple(k % 3 > 0 for k in range(60))
            rows = gone(book, 9, going)
            self.assertEqual(len(rows), 61)
            self.assertEqual(rows[0], NINE)
            for k, gap in enumerate(book):
                self.assertEqual(rows[k + 1], exchanged(rows[k], gap) if going[k] else rows[k])

    def test_all_goings_of_small_books(self):
        for many in (2, 3, 4):
            for book in mixed_books(many, 6, 4):
                for going, row in all_goings(book, many):
                    self.assertEqual(gone(book, many, going)[-1], row)

    def test_refused(self):
        for many in NO_MANY:
            self.refused(NoMany, gone, (0, 1), many, (True, True))
        for book in NO_BOOK:
            self.refused(NoBook, gone, book, 3, ())
        for going in NO_GOING:
            self.refused(NoGoing, gone, (0, 1), 3, going)
        self.refused(NoGoing, gone, (), 3, (False,))
        self.refused(NoGoing, gone, (), 1, [])

    def test_the_order_of_refusals(self):
        self.refused(NoMany, gone, [0], 10, None)
        self.refused(NoMany, gone, (7,), True, None)
        self.refused(NoMany, gone, (0,), 0, (1,))
        self.refused(NoBook, gone, (2,), 3, (1,))
        self.refused(NoBook, gone, [0], 3, None)


class Corners(Refusing, unittest.TestCase):
    def test_told(self):
        self.assertEqual(corners((0,)), [[0, 0], [1, 0]])
        self.assertEqual(corners((1, 0)), [[0, 0, 0], [1, 1, 0], [2, 1, 0]])
        self.assertEqual(corners((2, 0, 1)), [[0, 0, 0, 0], [1, 1, 1, 0], [2, 1, 1, 0], [3, 2, 1, 0]])

    def test_all_small_rows_and_nine_people(self):
        rows = [row for many in range(1, 6) for row in all_rows(many)]
        for row in [*rows, NINE, NINE[::-1], (4, 8, 0, 2, 7, 1, 3, 6, 5)]:
            people = range(len(row) + 1)
            self.assertEqual(corners(row), [[corner(row, i, j) for j in people] for i in people])

    def test_no_row(self):
        for thing in NO_ROW:
            self.refused(NoRow, corners, thing)


class Below(Refusing, unittest.TestCase):
    def test_told(self):
        self.assertIs(below((0, 1, 2), (2, 1, 0)), True)
        self.assertIs(below((2, 1, 0), (0, 1, 2)), False)
        self.assertIs(below((1, 0, 2), (0, 2, 1)), False)
        self.assertIs(below((0, 2, 1), (1, 0, 2)), False)
        self.assertIs(below((0,), (0,)), True)
        self.assertIs(below(NINE, NINE[::-1]), True)
        self.assertIs(below(NINE[::-1], NINE), False)
        self.assertEqual(unlike_corner((2, 1, 0), (0, 1, 2)), (1, 1))
        self.assertEqual(unlike_corner((0, 2, 1), (1, 0, 2)), (2, 2))
        self.assertIsNone(unlike_corner((0,), (0,)))

    def test_all_pairs_of_small_rows(self):
        for many in range(1, 5):
            for row in all_rows(many):
                for other in all_rows(many):
                    least = least_unlike(row, other)
                    self.assertEqual(unlike_corner(row, other), least)
                    self.assertIs(below(row, other), least is None)

    def test_the_rows_that_a_shortest_book_lets(self):
        # (1 2 3 0), (3 0 1 2) and two more, each with a book of as many meetings as turned pairs.
        for book in [(0, 1, 2), (2, 1, 0), (1, 0, 2, 1), (0, 1, 0, 2, 1, 0)]:
            let = by_row(book, 4)
            top = max(let, key=turned_pairs)
            for row in all_rows(4):
                self.assertIs(below(row, top), row in let)

    def test_refused(self):
        for call in (below, unlike_corner):
            for thing in NO_ROW:
                self.refused(NoRow, call, thing, (0, 1))
                self.refused(NoRow, call, (0, 1), thing)
            self.refused(Unlike, call, (0,), (0, 1))
            self.refused(Unlike, call, (0, 1, 2), (1, 0))
            self.refused(Unlike, call, NINE, (0, 1, 2, 3, 4, 5, 6, 7))

    def test_no_row_goes_ahead_of_unlike(self):
        for call in (below, unlike_corner):
            self.refused(NoRow, call, (0,), (0, 2))
            self.refused(NoRow, call, (1, 1, 1), (0, 1))


if __name__ == "__main__":
    unittest.main()

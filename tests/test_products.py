"""Point [17], and [8] as far as it speaks of these."""

import unittest

from maymeet.errors import NoRow, Unlike
from maymeet.exchanges import shortest
from maymeet.lets import farthest
from maymeet.products import back, needed_ahead, needed_behind, product
from maymeet.rows import below
from tests.plain import (NO_ROW, Refusing, Within, all_below, all_rows, gone_rows, mixed_books, plain_farthest,
                         shortest_books)

NINE = (0, 1, 2, 3, 4, 5, 6, 7, 8)


def all_products(many):
    """The row farthest of all, for each two rows, when a shortest book of the other follows one of the row."""
    books = {row: books[0] for row, books in shortest_books(many).items()}
    return {(row, other): plain_farthest(books[row] + books[other], many) for row in books for other in books}


class Told(unittest.TestCase):
    def test_product(self):
        self.assertEqual(product((0,), (0,)), (0,))
        self.assertEqual(product((1, 0), (1, 0)), (1, 0))
        self.assertEqual(product((1, 0, 2), (0, 2, 1)), (1, 2, 0))
        self.assertEqual(product((0, 2, 1), (1, 0, 2)), (2, 0, 1))
        self.assertEqual(product((1, 2, 0), (1, 2, 0)), (2, 1, 0))
        self.assertEqual(product((0, 1, 2), (2, 0, 1)), (2, 0, 1))

    def test_needed(self):
        self.assertEqual(needed_ahead((0,), (0,)), (0,))
        self.assertEqual(needed_ahead((1, 2, 0), (0, 1, 2)), (1, 2, 0))
        self.assertEqual(needed_ahead((1, 2, 0), (0, 2, 1)), (1, 0, 2))
        self.assertEqual(needed_ahead((1, 2, 0), (1, 0, 2)), (1, 2, 0))
        self.assertEqual(needed_behind((1, 2, 0), (1, 0, 2)), (0, 2, 1))
        self.assertEqual(needed_behind((1, 2, 0), (0, 2, 1)), (1, 2, 0))
        self.assertEqual(needed_behind((0, 1), (1, 0)), (0, 1))

    def test_back(self):
        self.assertEqual(back((0,)), (0,))
        self.assertEqual(back((1, 2, 0)), (2, 0, 1))
        self.assertEqual(back((3, 0, 2, 1)), (1, 3, 2, 0))
        self.assertIs(type(back((1, 0))), tuple)


class SmallCases(unittest.TestCase):
    """Up to four people, held against a plain going through all rows and books."""

    def test_product(self):
        for many in range(1, 5):
            for (row, other), far in all_products(many).items():
                self.assertEqual(product(row, other), far)

    def test_product_hangs_on_the_two_rows_alone(self):
        for many in (2, 3, 4):
            for book in mixed_books(many, 5, 12):
                for behind in mixed_books(many, 6, 12):
                    rows = (plain_farthest(book, many), plain_farthest(behind, many))
                    self.assertEqual(product(*rows), plain_farthest(book + behind, many))

    def test_all_that_comes_lies_below_the_product(self):
        low = all_below(3)
        for row in all_rows(3):
            for other in all_rows(3):
                come = gone_rows(shortest(row) + shortest(other), 3)
                self.assertEqual(come, {here for here in all_rows(3) if (here, product(row, other)) in low})

    def fits(self, rows, come):
        """For each two rows, the one row such that the first comes with a third just where it lies below the third."""
        low = all_below(len(rows[0]))
        lie_above = {frozenset(other for other in rows if (here, other) in low): here for here in rows}
        self.assertEqual(len(lie_above), len(rows))
        for row in rows:
            for fixed in rows:
                yield row, fixed, lie_above[frozenset(free for free in rows if (row, come(fixed, free)) in low)]

    def test_needed(self):
        for many in range(1, 5):
            products = all_products(many)
            for row, other, needed in self.fits(all_rows(many), lambda other, first: products[first, other]):
                self.assertEqual(needed_ahead(row, other), needed)
            for row, first, needed in self.fits(all_rows(many), lambda first, other: products[first, other]):
                self.assertEqual(needed_behind(row, first), needed)

    def test_back(self):
        for many in range(1, 6):
            for row in all_rows(many):
                told = back(row)
                self.assertEqual([told[person] for person in row], list(range(many)))
                self.assertEqual(back(told), row)
        for many in range(2, 5):
            for book in mixed_books(many, 6, 20):
                self.assertEqual(back(plain_farthest(book, many)), plain_farthest(book[::-1], many))

    def test_back_of_a_product(self):
        for many in range(1, 5):
            for row in all_rows(many):
                for other in all_rows(many):
                    self.assertEqual(back(product(row, other)), product(back(other), back(row)))


class NinePeople(unittest.TestCase):
    """A small power of steps is enough: not all rows of nine people are gone through."""

    def rows(self):
        return [NINE, NINE[::-1], *(plain_farthest(book, 9) for meetings in (6, 12, 20) for book in mixed_books(9, meetings, 4))]

    def test_products(self):
        with Within(60):
            for book in mixed_books(9, 20, 8):
                for behind in mixed_books(9, 12, 8):
                    far = product(plain_farthest(book, 9), plain_farthest(behind, 9))
                    self.assertEqual(far, farthest(book + behind, 9))
            self.assertEqual(product(NINE[::-1], (1, 0, *NINE[2:])), NINE[::-1])
            self.assertEqual(back((8, *NINE[:8])), (*NINE[1:], 0))

    def test_needed(self):
        with Within(120):
            rows = self.rows()
            for row in rows:
                for fixed in rows:
                    ahead = needed_ahead(row, fixed)
                    behind = needed_behind(row, fixed)
                    self.assertIs(below(row, product(ahead, fixed)), True)
                    self.assertIs(below(row, product(fixed, behind)), True)
                    for free in rows:
                        self.assertIs(below(row, product(free, fixed)), below(ahead, free))
                        self.assertIs(below(row, product(fixed, free)), below(behind, free))

    def test_the_whole_row_needs_nothing(self):
        for row in self.rows():
            self.assertEqual(needed_ahead(row, NINE[::-1]), NINE)
            self.assertEqual(needed_behind(row, NINE[::-1]), NINE)
            self.assertEqual(needed_ahead(row, NINE), row)
            self.assertEqual(needed_behind(row, NINE), row)
            self.assertEqual(needed_ahead(row, row), NINE)
            self.assertEqual(needed_behind(row, row), NINE)


class Refused(Refusing, unittest.TestCase):
    def test_no_row(self):
        for row in NO_ROW:
            self.refused(NoRow, back, row)
            for call in (product, needed_ahead, needed_behind):
                self.refused(NoRow, call, row, (0, 1))
                self.refused(NoRow, call, (0, 1), row)
                self.refused(NoRow, call, (0, 1, 2), row)

    def test_unlike(self):
        for call in (product, needed_ahead, needed_behind):
            self.refused(Unlike, call, (0,), (0, 1))
            self.refused(Unlike, call, (2, 1, 0), (1, 0))
            self.refused(Unlike, call, NINE, NINE[:8])

    def test_no_row_goes_ahead_of_unlike(self):
        for call in (product, needed_ahead, needed_behind):
            self.refused(NoRow, call, (0,), [0, 1])
            self.refused(NoRow, call, (0, 2), (0, 1, 2))


if __name__ == "__main__":
    unittest.main()

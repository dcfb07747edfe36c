"""Point [4], sentence by sentence, over the whole program."""

import unittest

from maymeet.between import between, counted, evenly
from maymeet.desk import Desk
from maymeet.exchanges import is_shortest, led_down, led_over, many_shortest, nth_shortest, shortest, stepped, steps
from maymeet.goings import ends, nth
from maymeet.kinds import kinds_farthest, kinds_let
from maymeet.leftout import greatest_left, in_place, is_left, led_left
from maymeet.lets import farthest, fewest, lets, same, why_not
from maymeet.products import needed_behind, product
from maymeet.rows import below, corners, gone, row_of, turned
from maymeet.texts import (read_book, read_going, read_row, read_table, read_weight, show_book, show_going, show_row,
                           show_table, show_weight)
from maymeet.weighed import table_at, weigh
from tests.plain import all_rows, mixed_books

BOOKS = [((), 1)] + [(book, many) for many in (2, 3, 4) for long in (0, 2, 5, 8) for book in mixed_books(many, long, 2)]


def going_of(meetings, book):
    return tuple(meeting in meetings for meeting in range(len(book)))


class Whole(unittest.TestCase):
    def test_a_row_can_come_just_where_no_corner_is_greater(self):
        for book, many in BOOKS + [(book, 5) for book in mixed_books(5, 9, 2)]:
            come = [row for row, _ in ends(book, many)]
            far = corners(farthest(book, many))
            for row in all_rows(many):
                mine = corners(row)
                places = [(i, j) for i in range(many + 1) for j in range(many + 1) if mine[i][j] > far[i][j]]
                self.assertIs(lets(book, row), row in come)
                self.assertIs(row in come, not places)
                self.assertEqual(why_not(book, row), min(places, default=None))
                meetings = fewest(book, row)
                if row in come:
                    self.assertEqual(len(meetings), turned(row))
                    self.assertEqual(gone(book, many, going_of(meetings, book))[-1], row)
                else:
                    self.assertIsNone(meetings)

    def test_books_that_let_the_same_rows_are_led_to_one_another(self):
        for book, many in BOOKS:
            row = farthest(book, many)
            here = book
            for step in led_down(book, many):
                self.assertIn(step, steps(here))
                here = stepped(here, step)
                self.assertIs(same(here, book, many), True)
            self.assertEqual(here, shortest(row))
            self.assertIs(is_shortest(here, many), True)
            other = nth_shortest(row, many_shortest(row) - 1)
            for step in led_over(here, other, many):
                here = stepped(here, step)
            self.assertEqual(here, other)

    def test_rows_one_behind_the_other(self):
        for book, many in BOOKS:
            for other in mixed_books(many, 4, 2) if many > 1 else [()]:
                self.assertEqual(product(farthest(book, many), farthest(other, many)), farthest(book + other, many))
                for row in all_rows(many):
                    needed = needed_behind(row, farthest(book, many))
                    self.assertIs(lets(book + other, row), lets(other, needed))

    def test_a_table_that_no_exchange_alters(self):
        for book, many in BOOKS:
            table = weigh(book, many)
            self.assertEqual(table_at(table, 1), [(gone(book, many, (True,) * len(book))[-1], 1)])
            self.assertEqual([row for row, _ in table], [row for row, _ in ends(book, many)])
            for step in steps(book):
                self.assertIs(weigh(stepped(book, step), many) == table, step[1] != "once")

    def test_rows_between(self):
        for many in (1, 2, 3, 4):
            for high in all_rows(many):
                for low in all_rows(many):
                    signs = [1 - turned(row) % 2 * 2 for row in between(low, high)]
                    self.assertEqual(sum(signs), signs[0] if low == high else 0)
                    self.assertIs(bool(signs), below(low, high))
                self.assertIs(counted(high) == counted(high)[::-1], evenly(high) is None)

    def test_meetings_that_can_be_left_out(self):
        for book, many in BOOKS:
            for row, _ in ends(book, many):
                greatest = greatest_left(book, row)
                stays = [k for k in range(len(book)) if k not in fewest(book, row)]
                self.assertIn(tuple(stays), greatest)
                for left in greatest[:2]:
                    self.assertIs(is_left(book, row, left), True)
                    if row == farthest(book, many):
                        self.assertNotIn(None, [in_place(book, row, left, meeting) for meeting in left])
                    self.assertIsInstance(led_left(book, row, left, greatest[-1]), list)

    def test_people_of_kinds_come_by_the_same_promise(self):
        for book, many in BOOKS:
            first = tuple(k // 2 for k in range(many))
            self.assertEqual(kinds_farthest(book, first), tuple(first[person] for person in farthest(book, many)))
            for row, _ in ends(book, many):
                self.assertIs(kinds_let(book, first, tuple(first[person] for person in row)), True)

    def test_a_desk_tells_what_its_book_tells(self):
        for book, many in BOOKS:
            desk = Desk(many)
            for gap in reversed(book):
                desk.put(0, gap)
            self.assertEqual((desk.book(), desk.farthest()), (book, farthest(book, many)))
            come = [row for row, _ in ends(book, many) if row != row_of(many)]
            self.assertEqual(desk.news(), (come, []))

    def test_all_is_written_and_read_back(self):
        for book, many in BOOKS:
            self.assertEqual(read_book(show_book(book, many)), (book, many))
            table = weigh(book, many)
            self.assertEqual(read_table(show_table(table)), table)
            for row, weight in table:
                going = nth(book, row, 0)
                self.assertEqual(read_row(show_row(row)), row)
                self.assertEqual(read_weight(show_weight(weight)), weight)
                self.assertEqual(read_going(show_going(going)), going)


if __name__ == "__main__":
    unittest.main()

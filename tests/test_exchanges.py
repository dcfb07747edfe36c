"""Points [14], [15], [16], and [4] and [8] as far as they speak of these."""

import itertools
import unittest

from maymeet.errors import NoBook, NoMany, NoNumber, NoRow, NoStep, NotOne, TooMany
from maymeet.exchanges import is_shortest, led_down, led_over, many_shortest, nth_shortest, shortest, stepped, steps
from tests.plain import (NO_BOOK, NO_MANY, NO_ROW, NO_WHOLE, Refusing, Within, all_books, all_rows, by_row, mixed_books,
                         plain_farthest, shortest_books, turned_pairs)

SIX = (5, 4, 3, 2, 1, 0)
SEVEN = (0, 1, 2, 3, 4, 5, 6)
NINE = (0, 1, 2, 3, 4, 5, 6, 7, 8)
WHOLE = tuple(gap for top in range(8) for gap in range(top, -1, -1))
WORDS = ("far", "once", "three")

# None of these is a step of the book (0, 2, 2, 3, 2), whose steps are (0, "far"), (1, "once") and (2, "three").
NO_STEP = [
    *NO_WHOLE, -1, 5, "far", (0,), ("far",), ("far", 0), [0, "far"], (0, "far", 0), (0, "far", None), ((0, "far"),),
    (False, "far"), (True, "once"), (0.0, "far"), ("0", "far"), (None, "far"), ((0,), "far"), (-5, "far"), (-1, "far"),
    (0, "once"), (0, "three"), (1, "far"), (1, "three"), (2, "far"), (2, "once"), (3, "far"), (3, "three"), (3, "once"),
    (4, "far"), (4, "once"), (4, "three"), (5, "once"), (10 ** 19, "far"), (-10 ** 19, "far"),
    (0, "Far"), (0, "far "), (0, ""), (0, None), (3, None), (4, None), (0, True), (0, ["far"]), (0, ("far",)), (0, b"far"),
]


def plain_stepped(book, place, word):
    """The book behind the step, or None where it cannot be done."""
    two = book[place:place + 2]
    three = book[place:place + 3]
    if word == "far" and len(two) == 2 and abs(two[0] - two[1]) > 1:
        return book[:place] + two[::-1] + book[place + 2:]
    if word == "three" and len(three) == 3 and three[0] == three[2] and abs(three[0] - three[1]) == 1:
        return book[:place] + (three[1], three[0], three[1]) + book[place + 3:]
    if word == "once" and len(two) == 2 and two[0] == two[1]:
        return book[:place] + book[place + 1:]
    return None


def plain_steps(book):
    places = range(len(book) + 1)
    return [(place, word) for place in places for word in WORDS if plain_stepped(book, place, word) is not None]


def run_books(many):
    """All books of runs, one for each person from 1 on."""
    runs = [[tuple(range(top, low - 1, -1)) for low in range(top + 2)] for top in range(many - 1)]
    return [tuple(gap for run in chosen for gap in run) for chosen in itertools.product(*runs)]


class Led(Refusing):
    def done(self, book, told, words):
        """The book behind all the told steps, each of which can be done where it stands."""
        self.assertIs(type(told), list)
        for step in told:
            self.assertIs(type(step), tuple)
            place, word = step
            self.assertIs(type(place), int)
            self.assertIn(word, words)
            book = plain_stepped(book, place, word)
            self.assertIsNotNone(book)
        return book


class Steps(Refusing, unittest.TestCase):
    def test_told(self):
        self.assertEqual(steps(()), [])
        self.assertEqual(steps((0,)), [])
        self.assertEqual(steps((0, 2, 2, 3, 2)), [(0, "far"), (1, "once"), (2, "three")])
        self.assertEqual(steps((0, 1, 0)), [(0, "three")])
        self.assertEqual(steps((1, 0, 1)), [(0, "three")])
        self.assertEqual(steps((0, 1, 2)), [])
        self.assertEqual(steps((0, 2, 0)), [(0, "far"), (1, "far")])
        self.assertEqual(steps((0, 0, 0)), [(0, "once"), (1, "once")])
        self.assertEqual(steps((7, 0, 7, 6, 7)), [(0, "far"), (1, "far"), (2, "three")])

    def test_stepped(self):
        book = (0, 2, 2, 3, 2)
        self.assertEqual(stepped(book, (0, "far")), (2, 0, 2, 3, 2))
        self.assertEqual(stepped(book, (1, "once")), (0, 2, 3, 2))
        self.assertEqual(stepped(book, (2, "three")), (0, 2, 3, 2, 3))
        self.assertEqual(stepped((7, 6, 7), (0, "three")), (6, 7, 6))
        self.assertEqual(stepped((6, 7, 6), (0, "three")), (7, 6, 7))
        self.assertEqual(stepped((1, 1), (0, "once")), (1,))
        self.assertIs(type(stepped((1, 1), (0, "once"))), tuple)

    def test_small_books(self):
        books = [book for meetings in range(5) for book in all_books(5, meetings)]
        for book in [*books, *mixed_books(9, 12, 30), *mixed_books(9, 60, 3)]:
            told = steps(book)
            self.assertEqual(told, plain_steps(book))
            for place, word in told:
                self.assertEqual(stepped(book, (place, word)), plain_stepped(book, place, word))

    def test_what_cannot_be_done_is_no_step(self):
        for book in all_books(4, 4):
            for place in range(-1, 6):
                for word in WORDS:
                    if (place, word) not in plain_steps(book):
                        self.refused(NoStep, stepped, book, (place, word))

    def test_no_step_alters_which_rows_are_let(self):
        for book in mixed_books(4, 6, 25):
            told = by_row(book, 4)
            for step in steps(book):
                after = by_row(stepped(book, step), 4)
                self.assertEqual(set(after), set(told))
                if step[1] == "far":
                    self.assertEqual({row: len(told[row]) for row in told}, {row: len(after[row]) for row in after})

    def test_no_book(self):
        for book in [*NO_BOOK[:18], (-1,), (8,), (10 ** 20,), (0, 8), (True,), (0, False), (0.0,), ("0",), (None,), ((0,),)]:
            self.refused(NoBook, steps, book)
            self.refused(NoBook, stepped, book, (0, "far"))
            self.refused(NoBook, stepped, book, None)

    def test_no_step(self):
        for step in NO_STEP:
            self.refused(NoStep, stepped, (0, 2, 2, 3, 2), step)
        for step in [(0, "far"), (0, "once"), (0, "three"), (-1, "once"), (0, None), None]:
            self.refused(NoStep, stepped, (), step)
            self.refused(NoStep, stepped, (0,), step)


class Shortest(Refusing, unittest.TestCase):
    def test_told(self):
        self.assertEqual(shortest((0,)), ())
        self.assertEqual(shortest((1, 0)), (0,))
        self.assertEqual(shortest((2, 1, 0)), (0, 1, 0))
        self.assertEqual(shortest((3, 0, 1, 2)), (2, 1, 0))
        self.assertEqual(shortest((1, 2, 3, 0)), (0, 1, 2))
        self.assertEqual(shortest((2, 3, 0, 1)), (1, 0, 2, 1))
        self.assertEqual(shortest(NINE), ())
        self.assertEqual(shortest(NINE[::-1]), WHOLE)
        self.assertIs(type(shortest((1, 0))), tuple)

    def test_one_book_alone_is_so_made(self):
        for many in range(1, 7):
            made = {}
            for book in run_books(many):
                made.setdefault(plain_farthest(book, many), []).append(book)
            self.assertEqual(sorted(made), all_rows(many))
            for row in made:
                self.assertEqual([shortest(row)], made[row])
                self.assertEqual(len(shortest(row)), turned_pairs(row))

    def test_all_shortest_books_of_small_rows(self):
        for many in range(1, 5):
            books = shortest_books(many)
            for row in all_rows(many):
                told = [nth_shortest(row, number) for number in range(len(books[row]))]
                self.assertEqual(told, books[row])
                self.assertEqual(many_shortest(row), len(books[row]))
                self.assertIn(shortest(row), books[row])
                self.assertEqual(len(books[row][0]), turned_pairs(row))
                self.refused(NoNumber, nth_shortest, row, len(books[row]))
                self.refused(NoNumber, nth_shortest, row, 10 ** 19)

    def test_is_shortest_of_small_books(self):
        for many, longest in [(1, 0), (2, 4), (3, 6), (4, 6)]:
            books = [book for meetings in range(longest + 1) for book in all_books(many, meetings)]
            fewest = {}
            for book in books:
                far = plain_farthest(book, many)
                fewest[far] = min(len(book), fewest.get(far, len(book)))
            for book in books:
                self.assertIs(is_shortest(book, many), len(book) == fewest[plain_farthest(book, many)])

    def test_is_shortest_of_long_books(self):
        self.assertIs(is_shortest((), 9), True)
        self.assertIs(is_shortest(WHOLE, 9), True)
        self.assertIs(is_shortest(WHOLE + (0,), 9), False)
        self.assertIs(is_shortest(WHOLE + WHOLE[:24], 9), False)
        self.assertIs(is_shortest(mixed_books(9, 40, 1)[0], 9), False)

    def test_five_people(self):
        for row in all_rows(5)[::7]:
            many = many_shortest(row)
            told = [nth_shortest(row, number) for number in range(many)]
            self.assertEqual(told, sorted(set(told)))
            for book in told:
                self.assertEqual(plain_farthest(book, 5), row)
                self.assertEqual(len(book), turned_pairs(row))
            self.refused(NoNumber, nth_shortest, row, many)

    def test_the_wholly_turned_rows(self):
        # As many as there are standard tableaux of a staircase.
        self.assertEqual([many_shortest(SIX[-many:]) for many in range(1, 7)], [1, 1, 2, 16, 768, 292864])

    def test_six_people_are_told_by_number(self):
        with Within(30):
            numbers = [0, 1, 2, 292864 // 3, 292864 // 2, 292862, 292863]
            told = [nth_shortest(SIX, number) for number in numbers]
            self.assertEqual(told[0], (0, 1, 0, 2, 1, 0, 3, 2, 1, 0, 4, 3, 2, 1, 0))
            self.assertEqual(told[-1], (4, 3, 4, 2, 3, 4, 1, 2, 3, 4, 0, 1, 2, 3, 4))
            self.assertEqual(told, sorted(set(told)))
            for book in told:
                self.assertEqual(len(book), 15)
                self.assertEqual(plain_farthest(book, 6), SIX)
                self.assertIs(type(book), tuple)
            self.refused(NoNumber, nth_shortest, SIX, 292864)

    def test_few_books(self):
        self.assertEqual(many_shortest((0, 1, 2, 3, 4, 5)), 1)
        self.assertEqual(nth_shortest((0, 1, 2, 3, 4, 5), 0), ())
        self.assertEqual(nth_shortest((1, 0, 3, 2, 5, 4), 3), (2, 4, 0))
        self.assertEqual(many_shortest((0,)), 1)
        self.assertEqual(nth_shortest((0,), 0), ())
        self.refused(NoNumber, nth_shortest, (0,), 1)

    def test_no_row(self):
        for row in NO_ROW:
            self.refused(NoRow, shortest, row)
            self.refused(NoRow, many_shortest, row)
            self.refused(NoRow, nth_shortest, row, 0)

    def test_no_number(self):
        for number in NO_WHOLE + [-1, -10 ** 20]:
            self.refused(NoNumber, nth_shortest, (1, 0), number)

    def test_too_many(self):
        for row in (SEVEN, SEVEN[::-1], NINE[:8], NINE, NINE[::-1]):
            self.assertEqual(self.refused(TooMany, many_shortest, row), len(row))
            self.assertEqual(self.refused(TooMany, nth_shortest, row, 0), len(row))

    def test_the_order_of_refusals(self):
        self.refused(NoRow, nth_shortest, [0], None)
        self.refused(NoRow, nth_shortest, (0,) * 7, -1)
        self.refused(NoNumber, nth_shortest, SEVEN, -1)
        self.refused(NoNumber, nth_shortest, SEVEN, True)
        self.refused(NoNumber, nth_shortest, SEVEN, "0")
        self.refused(TooMany, nth_shortest, SEVEN, 1)
        self.refused(TooMany, nth_shortest, NINE, 10 ** 19)

    def test_is_shortest_refused(self):
        for many in NO_MANY:
            self.refused(NoMany, is_shortest, (), many)
        for book in NO_BOOK:
            self.refused(NoBook, is_shortest, book, 3)


class LedDown(Led, unittest.TestCase):
    def led(self, book, many):
        end = self.done(book, led_down(book, many), WORDS)
        self.assertEqual(end, shortest(plain_farthest(book, many)))

    def test_told(self):
        self.assertEqual(led_down((), 1), [])
        self.assertEqual(led_down((), 9), [])
        self.assertEqual(led_down((0,), 2), [])
        self.assertEqual(led_down((0, 0), 2), [(0, "once")])
        self.assertEqual(led_down((2, 0), 4), [(0, "far")])
        self.assertEqual(led_down((1, 0, 1), 3), [(0, "three")])

    def test_small_books(self):
        for many, longest in [(2, 6), (3, 8), (4, 6), (5, 5)]:
            for meetings in range(longest + 1):
                for book in all_books(many, meetings):
                    self.led(book, many)

    def test_long_books(self):
        with Within(60):
            for many in (4, 6, 9):
                for meetings in (20, 40, 60):
                    for book in mixed_books(many, meetings, 6):
                        self.led(book, many)
            for book in [(0,) * 60, (7,) * 60, WHOLE + WHOLE[:24], WHOLE[::-1] + WHOLE[::-1][:24], tuple(range(8)) * 7,
                         tuple(range(7, -1, -1)) * 7, (7, 0) * 30, (3, 4) * 30, tuple(7 - gap for gap in WHOLE)]:
                self.led(book, 9)

    def test_steps_grow_slowly(self):
        # A meeting goes through each of the runs ahead of it at most once.
        for book in mixed_books(9, 60, 6):
            self.assertLessEqual(len(led_down(book, 9)), 60 * 36)

    def test_refused(self):
        for many in NO_MANY:
            self.refused(NoMany, led_down, (), many)
        for book in NO_BOOK:
            self.refused(NoBook, led_down, book, 3)
        self.refused(NoMany, led_down, [0], 10)
        self.refused(NoBook, led_down, (0,), 1)


class LedOver(Led, unittest.TestCase):
    def led(self, book, other, many):
        self.assertEqual(self.done(book, led_over(book, other, many), ("far", "three")), other)

    def test_told(self):
        self.led((), (), 1)
        self.led((0,), (0,), 2)
        self.led((0, 1, 0), (1, 0, 1), 3)
        self.led((0, 2), (2, 0), 4)

    def test_all_shortest_books_of_small_rows(self):
        for many in range(1, 5):
            for books in shortest_books(many).values():
                for book in books:
                    for other in books:
                        self.led(book, other, many)

    def test_five_and_six_people(self):
        for row in [SIX[1:], SIX, (3, 5, 1, 4, 0, 2), (1, 0, 3, 2, 5, 4)]:
            count = many_shortest(row)
            books = [nth_shortest(row, count * part // 7) for part in range(7)]
            for book in books:
                self.led(book, books[-1], len(row))
                self.led(books[0], book, len(row))

    def test_nine_people(self):
        books = [WHOLE, WHOLE[::-1], tuple(7 - gap for gap in WHOLE), tuple(7 - gap for gap in WHOLE[::-1])]
        for book in books:
            for other in books:
                self.led(book, other, 9)

    def test_not_one(self):
        for many, longest in [(2, 2), (3, 4), (4, 3)]:
            books = [book for meetings in range(longest + 1) for book in all_books(many, meetings)]
            far = {book: plain_farthest(book, many) for book in books}
            short = [book for book in books if len(book) == turned_pairs(far[book])]
            for book in books:
                for other in books:
                    if book not in short or other not in short or far[book] != far[other]:
                        self.refused(NotOne, led_over, book, other, many)

    def test_refused(self):
        for many in NO_MANY:
            self.refused(NoMany, led_over, (), (), many)
        for book in NO_BOOK:
            self.refused(NoBook, led_over, book, (0,), 3)
            self.refused(NoBook, led_over, (0,), book, 3)
            self.refused(NoBook, led_over, (0, 0), book, 3)
            self.refused(NoBook, led_over, book, (0, 0), 3)
        self.refused(NoMany, led_over, None, (9,), False)


if __name__ == "__main__":
    unittest.main()

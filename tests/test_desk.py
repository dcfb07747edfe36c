"""Point [25], and [2] and [8] as far as they speak of it."""

import unittest

from maymeet.desk import Desk
from maymeet.errors import MeetError, NoGap, NoMany, NoPlace, NoRow, TooMany, Unlike
from maymeet.lets import farthest, lets
from tests.plain import NO_MANY, NO_ROW, NO_WHOLE, Refusing, Within, all_rows, gone_rows, mixed_numbers, plain_farthest

NO_PLACE = [thing for thing in NO_WHOLE if type(thing) is not int] + [-1, -2, -10 ** 19, 10 ** 19, "0", (0,), "00"]


def desk_of(book, many):
    desk = Desk(many)
    for place, gap in enumerate(book):
        desk.put(place, gap)
    return desk


class Beside:
    """A plain book beside a desk, with the count of rows made by the sentence of [25]."""

    def __init__(self, many):
        self.many = many
        self.book = []
        self.least = None
        self.looked = 0
        self.then = gone_rows((), many) if many < 5 else None

    def changed(self, place):
        self.least = place if self.least is None else min(self.least, place)

    def asked(self):
        if self.least is not None:
            self.looked += len(self.book[self.least:])
        self.least = None

    def put(self, place, gap):
        self.book = self.book[:place] + [gap] + self.book[place:]
        self.changed(place)

    def take(self, place):
        self.book = self.book[:place] + self.book[place + 1:]
        self.changed(place)

    def turn(self, place, gap):
        self.book = self.book[:place] + [gap] + self.book[place + 1:]
        self.changed(place)

    def farthest(self):
        self.asked()
        return plain_farthest(tuple(self.book), self.many)

    def lets(self, row):
        self.asked()
        return lets(tuple(self.book), row)

    def news(self):
        self.asked()
        now = {row for row in all_rows(self.many) if lets(tuple(self.book), row)}
        told = (sorted(now - self.then), sorted(self.then - now))
        self.then = now
        return told


class Told(unittest.TestCase):
    def test_a_new_desk(self):
        for many in (1, 2, 6, 9):
            desk = Desk(many)
            self.assertEqual(desk.book(), ())
            self.assertEqual(desk.farthest(), tuple(range(many)))
            self.assertIs(desk.lets(tuple(range(many))), True)
            self.assertEqual(desk.looked(), 0)
        self.assertEqual(Desk(1).news(), ([], []))
        self.assertEqual(Desk(6).news(), ([], []))

    def test_put_take_and_turn(self):
        desk = Desk(4)
        self.assertIsNone(desk.put(0, 1))
        self.assertEqual(desk.book(), (1,))
        self.assertIsNone(desk.put(0, 0))
        self.assertEqual(desk.book(), (0, 1))
        desk.put(2, 2)
        self.assertEqual(desk.book(), (0, 1, 2))
        desk.put(1, 2)
        self.assertEqual(desk.book(), (0, 2, 1, 2))
        self.assertIsNone(desk.take(0))
        self.assertEqual(desk.book(), (2, 1, 2))
        desk.take(2)
        self.assertEqual(desk.book(), (2, 1))
        self.assertIsNone(desk.turn(1, 0))
        self.assertEqual(desk.book(), (2, 0))
        desk.turn(0, 0)
        self.assertEqual(desk.book(), (0, 0))
        desk.take(0)
        desk.take(0)
        self.assertEqual(desk.book(), ())
        self.assertIs(type(desk.book()), tuple)

    def test_farthest_and_lets(self):
        desk = desk_of((0, 1, 0, 1), 3)
        self.assertEqual(desk.farthest(), (2, 1, 0))
        self.assertIs(desk.lets((2, 1, 0)), True)
        desk.take(0)
        desk.take(0)
        self.assertEqual(desk.farthest(), (1, 2, 0))
        self.assertIs(desk.lets((1, 2, 0)), True)
        self.assertIs(desk.lets((2, 0, 1)), False)

    def test_news(self):
        desk = desk_of((0, 1), 3)
        self.assertEqual(desk.news(), ([(0, 2, 1), (1, 0, 2), (1, 2, 0)], []))
        self.assertEqual(desk.news(), ([], []))
        desk.turn(0, 1)
        self.assertEqual(desk.news(), ([], [(1, 0, 2), (1, 2, 0)]))
        desk.turn(0, 0)
        desk.take(1)
        self.assertEqual(desk.news(), ([(1, 0, 2)], [(0, 2, 1)]))
        desk.take(0)
        desk.put(0, 0)
        self.assertEqual(desk.news(), ([], []))

    def test_news_are_since_the_last_asking_of_news(self):
        desk = desk_of((0,), 2)
        self.assertEqual(desk.farthest(), (1, 0))
        desk.take(0)
        self.assertEqual(desk.farthest(), (0, 1))
        self.assertEqual(desk.news(), ([], []))
        desk.put(0, 0)
        self.assertIs(desk.lets((1, 0)), True)
        self.assertEqual(desk.news(), ([(1, 0)], []))

    def test_two_desks_are_two(self):
        one = Desk(3)
        other = Desk(3)
        one.put(0, 1)
        self.assertEqual(other.book(), ())
        self.assertEqual(one.farthest(), (0, 2, 1))
        self.assertEqual(other.farthest(), (0, 1, 2))
        self.assertEqual((one.looked(), other.looked()), (1, 0))

    def test_arguments_by_name(self):
        desk = Desk(many=3)
        desk.put(gap=1, place=0)
        desk.put(gap=0, place=0)
        desk.turn(gap=1, place=0)
        desk.take(place=1)
        self.assertEqual(desk.book(), (1,))
        self.assertIs(desk.lets(row=(0, 2, 1)), True)

    def test_told_lists_are_the_askers_own(self):
        desk = desk_of((0, 1), 3)
        come, gone = desk.news()
        self.assertIsNot(come, gone)
        come.clear()
        gone.append("changed")
        self.assertEqual(desk.news(), ([], []))
        told = desk.news()
        self.assertIsNot(told[0], told[1])
        told[0].append("changed")
        self.assertEqual(told[1], [])
        self.assertEqual(desk.news(), ([], []))
        desk.turn(0, 1)
        self.assertEqual(desk.news(), ([], [(1, 0, 2), (1, 2, 0)]))


class Looked(unittest.TestCase):
    def test_from_the_changed_place_on(self):
        desk = desk_of((0, 1, 0, 1, 0), 3)
        self.assertEqual(desk.looked(), 0)
        desk.farthest()
        self.assertEqual(desk.looked(), 5)
        desk.turn(3, 0)
        self.assertEqual(desk.looked(), 5)
        desk.lets((0, 1, 2))
        self.assertEqual(desk.looked(), 7)
        desk.put(1, 0)
        desk.news()
        self.assertEqual(desk.looked(), 12)
        desk.take(4)
        desk.farthest()
        self.assertEqual(desk.looked(), 13)
        desk.take(4)
        desk.farthest()
        self.assertEqual(desk.looked(), 13)
        desk.put(4, 1)
        desk.farthest()
        self.assertEqual(desk.looked(), 14)

    def test_nothing_changed(self):
        desk = desk_of((0, 1, 0), 3)
        for _ in range(3):
            desk.farthest()
            desk.lets((2, 1, 0))
            desk.news()
            desk.book()
            desk.looked()
            self.assertEqual(desk.looked(), 3)

    def test_the_least_of_several(self):
        desk = desk_of((0, 1, 0, 1, 0), 3)
        desk.farthest()
        desk.turn(4, 1)
        desk.turn(2, 1)
        desk.turn(3, 1)
        desk.farthest()
        self.assertEqual(desk.looked(), 8)
        desk.put(2, 0)
        desk.take(2)
        desk.farthest()
        self.assertEqual(desk.looked(), 11)
        desk.take(4)
        desk.take(0)
        desk.farthest()
        self.assertEqual(desk.looked(), 14)

    def test_a_turn_to_the_same_gap(self):
        desk = desk_of((0, 1, 0), 3)
        desk.farthest()
        desk.turn(1, 1)
        desk.farthest()
        self.assertEqual(desk.looked(), 5)

    def test_what_is_refused_reckons_none(self):
        desk = desk_of((0, 1, 0), 3)
        for call in (lambda: desk.lets((0, 1)), lambda: desk.lets([0, 1, 2]), lambda: desk.put(4, 0), lambda: desk.take(3),
                     lambda: desk.put(0, 2), lambda: desk.turn(0, 2), lambda: desk.turn(3, 0)):
            with self.assertRaises(MeetError):
                call()
            self.assertEqual(desk.looked(), 0)
        desk.farthest()
        with self.assertRaises(NoGap):
            desk.turn(0, 2)
        desk.farthest()
        self.assertEqual(desk.looked(), 3)
        seven = desk_of((0, 1, 5), 7)
        with self.assertRaises(TooMany):
            seven.news()
        self.assertEqual(seven.looked(), 0)
        seven.farthest()
        self.assertEqual(seven.looked(), 3)


class Asked(unittest.TestCase):
    """A desk that is changed and asked on and on, held against its book asked anew."""

    def go(self, many, rounds, asking):
        desk = Desk(many)
        beside = Beside(many)
        numbers = mixed_numbers(many * 1000 + rounds, 5 * rounds)
        for k in range(rounds):
            act, place, gap, ask, which = numbers[5 * k:5 * k + 5]
            long = len(beside.book)
            if act % 3 == 0 and long > 0:
                self.both(desk, beside, "take", place % long)
            elif act % 3 == 1 and long > 0:
                self.both(desk, beside, "turn", place % long, gap % (many - 1))
            elif long < 40:
                self.both(desk, beside, "put", place % (long + 1), gap % (many - 1))
            self.assertEqual(desk.book(), tuple(beside.book))
            if ask % 5 < len(asking):
                self.ask(desk, beside, asking[ask % 5], which)
            self.assertEqual(desk.looked(), beside.looked)

    def both(self, desk, beside, word, *args):
        self.assertIsNone(getattr(desk, word)(*args))
        getattr(beside, word)(*args)

    def ask(self, desk, beside, word, which):
        if word == "lets":
            people = list(range(beside.many))
            row = []
            while people:
                row.append(people.pop(which % len(people)))
                which //= 3
            self.assertIs(desk.lets(tuple(row)), beside.lets(tuple(row)))
        else:
            self.assertEqual(getattr(desk, word)(), getattr(beside, word)())

    def test_few_people(self):
        for many in (2, 3, 4):
            self.go(many, 400, ("farthest", "lets", "news"))

    def test_many_people(self):
        for many in (5, 7, 9):
            self.go(many, 400, ("farthest", "lets"))

    def test_a_full_desk(self):
        for many in (2, 6, 9):
            book = tuple(number % (many - 1) for number in mixed_numbers(many, 40))
            desk = desk_of(book, many)
            self.assertEqual(desk.book(), book)
            self.assertEqual(desk.farthest(), farthest(book, many))
            self.assertEqual(desk.looked(), 40)
            for place in (0, 20, 39, 40, 41):
                with self.assertRaises(NoPlace):
                    desk.put(place, 0)
            desk.turn(39, 0)
            desk.take(0)
            desk.put(39, 0)
            self.assertEqual(desk.book(), book[1:39] + (0, 0))
            self.assertEqual(desk.farthest(), farthest(desk.book(), many))
            self.assertEqual(desk.looked(), 80)

    def test_long_asking_of_nine_people(self):
        with Within(30):
            desk = desk_of((0, 1, 2, 3, 4, 5, 6, 7) * 5, 9)
            for k in range(2000):
                desk.turn(k % 40, k % 8)
                self.assertIs(desk.lets(desk.farthest()), True)
            self.assertEqual(desk.looked(), 40 + sum(40 - k % 40 for k in range(1, 2000)))

    def test_news_of_six_people(self):
        with Within(60):
            desk = desk_of((0, 1, 2, 3, 4, 3, 2, 1, 0), 6)
            book = desk.book()
            self.assertEqual(desk.news(), ([row for row in all_rows(6)[1:] if lets(book, row)], []))
            for _ in range(9):
                desk.take(0)
            self.assertEqual(desk.news(), ([], [row for row in all_rows(6)[1:] if lets(book, row)]))


class Refused(Refusing, unittest.TestCase):
    def test_no_many(self):
        for many in NO_MANY:
            self.refused(NoMany, Desk, many)

    def test_no_place(self):
        for book in ((), (0,), (0, 1, 0)):
            desk = desk_of(book, 3)
            for place in NO_PLACE + [len(book) + 1]:
                self.refused(NoPlace, desk.put, place, 0)
            for place in NO_PLACE + [len(book), len(book) + 1]:
                self.refused(NoPlace, desk.take, place)
                self.refused(NoPlace, desk.turn, place, 0)
            self.assertEqual(desk.book(), book)

    def test_no_gap(self):
        desk = desk_of((0, 1), 3)
        for gap in [thing for thing in NO_WHOLE if type(thing) is not int] + [-1, 2, 10 ** 20]:
            for place in (0, 1, 2):
                self.refused(NoGap, desk.put, place, gap)
            for place in (0, 1):
                self.refused(NoGap, desk.turn, place, gap)
        self.assertEqual(desk.book(), (0, 1))
        self.refused(NoGap, Desk(1).put, 0, 0)
        self.refused(NoGap, Desk(9).put, 0, 8)

    def test_no_row(self):
        for row in NO_ROW:
            self.refused(NoRow, Desk(3).lets, row)

    def test_unlike(self):
        for row in ((0,), (1, 0), (0, 1, 2, 3), tuple(range(9))):
            self.refused(Unlike, Desk(3).lets, row)

    def test_too_many(self):
        for many in (7, 8, 9):
            desk = desk_of((0, many - 2), many)
            self.assertEqual(self.refused(TooMany, desk.news), many)
            self.assertEqual(desk.farthest(), farthest((0, many - 2), many))

    def test_the_order_of_refusals(self):
        desk = desk_of((0,), 2)
        self.refused(NoPlace, desk.put, 2, 1)
        self.refused(NoPlace, desk.put, True, None)
        self.refused(NoPlace, desk.turn, 1, 1)
        self.refused(NoPlace, desk_of((0,) * 40, 2).put, 0, 1)
        self.refused(NoRow, desk.lets, (0, 1, 1))

    def test_what_is_refused_alters_nothing(self):
        desk = desk_of((0, 1, 2), 4)
        desk.news()
        for call in (lambda: desk.put(0, 3), lambda: desk.take(3), lambda: desk.turn(0, -1), lambda: desk.lets((0,))):
            with self.assertRaises(MeetError):
                call()
            self.assertEqual(desk.book(), (0, 1, 2))
            self.assertEqual(desk.news(), ([], []))
            self.assertEqual(desk.looked(), 3)


if __name__ == "__main__":
    unittest.main()

"""Points [18], [19], and [4] and [8] as far as they speak of these."""

import unittest

from maymeet.errors import NoBook, NoGap, NoMany, NoNumber, NoRow, NoTable, TooMany
from maymeet.exchanges import many_shortest, nth_shortest, shortest, stepped, steps
from maymeet.lets import farthest, lets
from maymeet.rows import gone, turned
from maymeet.weighed import at, met, of_row, table_at, weigh
from tests.plain import (NO_BOOK, NO_MANY, NO_ROW, NO_TABLE, NO_WEIGHT, NO_WHOLE, Refusing, Within, all_rows, exchanged,
                         mixed_books, shortest_books, small_cases)

SIX = (0, 1, 2, 3, 4, 5)
SEVEN = (0, 1, 2, 3, 4, 5, 6)
NINE = (0, 1, 2, 3, 4, 5, 6, 7, 8)


def added(one, two):
    """The sum of two weights."""
    parts = [0] * max(len(one), len(two))
    for weight in (one, two):
        for power, part in enumerate(weight):
            parts[power] += part
    while parts and parts[-1] == 0:
        parts.pop()
    return parts


def times(one, two):
    """The product of two weights."""
    told = []
    for power, part in enumerate(one):
        told = added(told, [0] * power + [part * other for other in two])
    return told


def going_weight(book, many, going):
    """The product, meeting by meeting, or nought where the two stay though the greater stands ahead."""
    row = tuple(range(many))
    weight = [1]
    for gap, change in zip(book, going):
        lesser = row[gap] < row[gap + 1]
        if not lesser and not change:
            return []
        if not lesser:
            weight = times(weight, [0, 1])
        elif not change:
            weight = times(weight, [-1, 1])
        if change:
            row = exchanged(row, gap)
    return weight


def plain_weigh(book, many, told):
    """The table, by all goings one by one."""
    table = []
    for row in sorted(told):
        weight = []
        for going in told[row]:
            weight = added(weight, going_weight(book, many, going))
        if weight:
            table.append((row, weight))
    return table


def together(table, other, weight, other_weight):
    """The sum of two tables, each multiplied by a weight."""
    rows = {}
    for lines, factor in ((table, weight), (other, other_weight)):
        for row, part in lines:
            rows[row] = added(rows.get(row, []), times(part, factor))
    return [(row, rows[row]) for row in sorted(rows) if rows[row]]


def plain_at(weight, number):
    return sum(part * number ** power for power, part in enumerate(weight))


class Told(unittest.TestCase):
    def test_weigh(self):
        self.assertEqual(weigh((), 1), [((0,), [1])])
        self.assertEqual(weigh((), 6), [(SIX, [1])])
        self.assertEqual(weigh((0,), 2), [((0, 1), [-1, 1]), ((1, 0), [1])])
        self.assertEqual(weigh((0, 0), 2), [((0, 1), [1, -1, 1]), ((1, 0), [-1, 1])])
        self.assertEqual(weigh((0, 1), 3), [((0, 1, 2), [1, -2, 1]), ((0, 2, 1), [-1, 1]), ((1, 0, 2), [-1, 1]),
                                            ((1, 2, 0), [1])])

    def test_met(self):
        self.assertEqual(met([((0, 1), [1])], 0), [((0, 1), [-1, 1]), ((1, 0), [1])])
        self.assertEqual(met([((1, 0), [1])], 0), [((0, 1), [0, 1])])
        self.assertEqual(met([((1, 0), [5, -7])], 0), [((0, 1), [0, 5, -7])])

    def test_weights_that_fall_away(self):
        self.assertEqual(met([((0, 1), [0, 1]), ((1, 0), [1, -1])], 0), [((1, 0), [0, 1])])
        self.assertEqual(met([((0, 1), [3]), ((1, 0), [-3])], 0), [((0, 1), [-3]), ((1, 0), [3])])
        self.assertEqual(met([((0, 1), [1, 1]), ((1, 0), [0, -1])], 0), [((0, 1), [-1]), ((1, 0), [1, 1])])

    def test_at(self):
        self.assertEqual(at([], 5), 0)
        self.assertEqual(at([3], 0), 3)
        self.assertEqual(at([1, -2, 1], 3), 4)
        self.assertEqual(at([1, -2, 1], -3), 16)
        self.assertEqual(at([0, 0, 2], 10), 200)
        self.assertIs(type(at([], 0)), int)

    def test_table_at(self):
        self.assertEqual(table_at([((0, 1), [-1, 1]), ((1, 0), [1])], 1), [((1, 0), 1)])
        self.assertEqual(table_at([((0, 1), [-1, 1]), ((1, 0), [1])], 0), [((0, 1), -1), ((1, 0), 1)])
        self.assertEqual(table_at([((0, 1), [-1, 1]), ((1, 0), [1])], -4), [((0, 1), -5), ((1, 0), 1)])
        self.assertEqual(table_at([((0,), [0, 1])], 0), [])

    def test_of_row(self):
        self.assertEqual(of_row((0,)), [((0,), [1])])
        self.assertEqual(of_row((1, 0)), [((0, 1), [-1, 1]), ((1, 0), [1])])
        self.assertEqual(of_row(SIX), [(SIX, [1])])


class SmallCases(unittest.TestCase):
    """Held against a plain going through all goings."""

    def test_weigh(self):
        for many, book, told in small_cases():
            if len(book) < 7:
                self.assertEqual(weigh(book, many), plain_weigh(book, many, told))

    def test_met(self):
        for many, book, told in small_cases():
            if 0 < len(book) < 6:
                self.assertEqual(met(weigh(book[:-1], many), book[-1]), plain_weigh(book, many, told))

    def test_of_row_is_the_table_of_each_shortest_book(self):
        for many in range(1, 5):
            for row, books in shortest_books(many).items():
                for book in books:
                    self.assertEqual(of_row(row), weigh(book, many))

    def test_at(self):
        for many, book, told in small_cases():
            if len(book) == 4:
                table = weigh(book, many)
                for number in (-3, -1, 0, 1, 2, 10 ** 19):
                    worths = [(row, plain_at(weight, number)) for row, weight in table]
                    self.assertEqual([(row, at(weight, number)) for row, weight in table], worths)
                    self.assertEqual(table_at(table, number), [(row, worth) for row, worth in worths if worth != 0])


class Promised(unittest.TestCase):
    """What point [19] tells ahead of each table."""

    def books(self):
        for many in (2, 3, 4, 5, 6):
            for meetings in (0, 1, 3, 7, 11):
                for book in mixed_books(many, meetings, 2):
                    yield book, many

    def test_steps_do_not_alter_a_table(self):
        for many in (3, 4, 5):
            for book in mixed_books(many, 8, 12):
                table = weigh(book, many)
                for step in steps(book):
                    if step[1] != "once":
                        self.assertEqual(weigh(stepped(book, step), many), table)

    def test_the_sum(self):
        for book, many in self.books():
            total = []
            for _, weight in weigh(book, many):
                total = added(total, weight)
            self.assertEqual(total, [0] * len(book) + [1])

    def test_what_is_left_at_one(self):
        for book, many in self.books():
            self.assertEqual(table_at(weigh(book, many), 1), [(gone(book, many, (True,) * len(book))[-1], 1)])

    def test_the_rows_and_their_signs_at_nought(self):
        for book, many in self.books():
            table = weigh(book, many)
            self.assertEqual([row for row, _ in table], [row for row in all_rows(many) if lets(book, row)])
            signs = [(row, -1 if (len(book) - turned(row)) % 2 else 1) for row, _ in table]
            self.assertEqual(table_at(table, 0), signs)

    def test_shortest_books(self):
        for row in [row for many in (1, 2, 3, 4) for row in all_rows(many)] + [(4, 3, 2, 1, 0), (5, 3, 4, 1, 2, 0)]:
            for under, weight in of_row(row):
                less = turned(row) - turned(under)
                self.assertEqual(len(weight), less + 1)
                self.assertEqual(weight[-1], 1)
                self.assertEqual(weight[::-1], [-part for part in weight] if less % 2 else weight)

    def test_met_twice(self):
        for book, many in self.books():
            table = weigh(book, many)
            for gap in range(many - 1):
                once = met(table, gap)
                self.assertEqual(met(once, gap), together(once, table, [-1, 1], [0, 1]))

    def test_met_twice_of_other_tables(self):
        tables = [
            [((0, 1, 2), [0, 0, 7]), ((2, 1, 0), [-4, 10 ** 30])],
            [((1, 0, 2), [1]), ((2, 0, 1), [-1])],
            [((0, 2, 1), [5, -5]), ((1, 2, 0), [10 ** 40, 0, -3]), ((2, 1, 0), [0, 1])],
        ]
        for table in tables:
            for gap in (0, 1):
                once = met(table, gap)
                self.assertEqual(met(once, gap), together(once, table, [-1, 1], [0, 1]))
                self.assertEqual(met(together(table, table, [2], [0, 1]), gap), together(once, once, [2], [0, 1]))


class Long(unittest.TestCase):
    def test_sixty_meetings_of_six_people(self):
        with Within(120):
            for book in [*mixed_books(6, 60, 1), *mixed_books(6, 40, 1)]:
                table = weigh(book, 6)
                self.assertEqual([row for row, _ in table], [row for row in all_rows(6) if lets(book, row)])
                self.assertEqual(sum(worth for _, worth in table_at(table, 2)), 2 ** len(book))
                self.assertEqual(sum(worth for _, worth in table_at(table, -3)), (-3) ** len(book))
                self.assertEqual(table_at(table, 1), [(gone(book, 6, (True,) * len(book))[-1], 1)])
                self.assertEqual(met(weigh(book[:-1], 6), book[-1]), table)

    def test_one_gap_alone(self):
        table = weigh((4,) * 60, 6)
        self.assertEqual([row for row, _ in table], [SIX, (0, 1, 2, 3, 5, 4)])
        self.assertEqual(table[0][1], [1 if power % 2 == 0 else -1 for power in range(61)])
        self.assertEqual(table[1][1], [-1 if power % 2 == 0 else 1 for power in range(60)])

    def test_the_wholly_turned_row_of_six(self):
        row = SIX[::-1]
        table = of_row(row)
        self.assertEqual(len(table), 720)
        self.assertEqual(table, weigh(nth_shortest(row, many_shortest(row) - 1), 6))
        self.assertEqual(farthest(shortest(row), 6), row)

    def test_large_numbers(self):
        weight = [10 ** 60, -10 ** 60, 0, 3]
        for number in (10 ** 20 - 1, -10 ** 20 + 1):
            self.assertEqual(at(weight, number), plain_at(weight, number))
            self.assertEqual(table_at([(NINE, weight)], number), [(NINE, plain_at(weight, number))])
        self.assertEqual(at([0] * 999 + [1], -10 ** 19), -10 ** (19 * 999))

    def test_tables_of_nine_people_have_worths(self):
        table = [(NINE, [1, 2]), (NINE[::-1], [-1])]
        self.assertEqual(table_at(table, 3), [(NINE, 7), (NINE[::-1], -1)])


class Refused(Refusing, unittest.TestCase):
    def test_weigh(self):
        for many in NO_MANY:
            self.refused(NoMany, weigh, (), many)
        for book in NO_BOOK:
            self.refused(NoBook, weigh, book, 3)
        self.refused(NoBook, weigh, (0,), 1)

    def test_of_row(self):
        for row in NO_ROW:
            self.refused(NoRow, of_row, row)

    def test_no_table(self):
        for table in NO_TABLE:
            self.refused(NoTable, met, table, 0)
            self.refused(NoTable, table_at, table, 0)

    def test_no_weight(self):
        for weight in NO_WEIGHT:
            self.refused(NoTable, at, weight, 0)

    def test_a_table_is_no_weight(self):
        self.refused(NoTable, at, weigh((0,), 2), 0)
        self.refused(NoTable, table_at, [1], 0)

    def test_no_gap(self):
        for gap in NO_WHOLE + [-1, 2, 3, 10 ** 20]:
            self.refused(NoGap, met, weigh((), 3), gap)
        for gap in (-1, 0, 1):
            self.refused(NoGap, met, [((0,), [1])], gap)

    def test_no_number(self):
        for number in NO_WHOLE:
            if type(number) is not int:
                self.refused(NoNumber, at, [1], number)
                self.refused(NoNumber, table_at, [((0,), [1])], number)

    def test_too_many(self):
        for row in (SEVEN, SEVEN[::-1], NINE[:8], NINE, NINE[::-1]):
            self.assertEqual(self.refused(TooMany, of_row, row), len(row))
            self.assertEqual(self.refused(TooMany, weigh, (), len(row)), len(row))
            self.assertEqual(self.refused(TooMany, weigh, (5, 0), len(row)), len(row))
            self.assertEqual(self.refused(TooMany, met, [(row, [1])], len(row) - 2), len(row))

    def test_the_order_of_refusals(self):
        self.refused(NoMany, weigh, [0], 10)
        self.refused(NoBook, weigh, (6,), 7)
        self.refused(NoRow, of_row, (0, 1, 2, 3, 4, 5, 5))
        self.refused(NoTable, met, [], -1)
        self.refused(NoTable, met, [(SEVEN, [0])], 0)
        self.refused(NoTable, met, [(SEVEN, [True])], None)
        self.refused(NoGap, met, [(SEVEN, [1])], 6)
        self.refused(NoGap, met, [(NINE, [1])], True)
        self.refused(NoTable, at, [0], None)
        self.refused(NoTable, table_at, [], True)


if __name__ == "__main__":
    unittest.main()

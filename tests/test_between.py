"""Points [20], [21], [22], and [4] and [8] as far as they speak of these."""

import itertools
import unittest

from maymeet.between import above, between, chain, counted, evenly, greatest_below, least_above
from maymeet.errors import NoRow, TooMany, Unlike
from maymeet.rows import below, turned
from tests.plain import NO_ROW, Refusing, Within, all_below, all_rows, is_below, turned_pairs

SIX = (0, 1, 2, 3, 4, 5)
SEVEN = (0, 1, 2, 3, 4, 5, 6)
NINE = (0, 1, 2, 3, 4, 5, 6, 7, 8)


def plain_above(row, rows):
    return [other for other in rows if turned_pairs(other) == turned_pairs(row) + 1 and is_below(row, other)]


def plain_chains(low, high, ups):
    """All lists of rows from low to high, each above the one ahead."""
    if low == high:
        return [[low]]
    if turned_pairs(low) >= turned_pairs(high):
        return []
    return [[low, *rest] for up in ups[low] for rest in plain_chains(up, high, ups)]


def plain_counted(row, rows, low):
    counts = [0] * (turned_pairs(row) + 1)
    for other in rows:
        if (other, row) in low:
            counts[turned_pairs(other)] += 1
    return counts


def uneven_places(row):
    """All four places, rising, at which four people stand as 2 3 0 1 or 3 1 2 0 do among one another."""
    told = []
    for places in itertools.combinations(range(len(row)), 4):
        people = [row[place] for place in places]
        if [sorted(people).index(person) for person in people] in ([2, 3, 0, 1], [3, 1, 2, 0]):
            told.append(places)
    return told


class Told(unittest.TestCase):
    def test_between(self):
        self.assertEqual(between((0,), (0,)), [(0,)])
        self.assertEqual(between((0, 1), (1, 0)), [(0, 1), (1, 0)])
        self.assertEqual(between((1, 0), (0, 1)), [])
        self.assertEqual(between((0, 1, 2), (2, 1, 0)), [(0, 1, 2), (0, 2, 1), (1, 0, 2), (1, 2, 0), (2, 0, 1), (2, 1, 0)])
        self.assertEqual(between((1, 0, 2), (2, 1, 0)), [(1, 0, 2), (1, 2, 0), (2, 0, 1), (2, 1, 0)])
        self.assertEqual(between((1, 0, 2), (0, 2, 1)), [])

    def test_by_turned_pairs_ahead_of_tuples(self):
        told = between((0, 1, 2, 3), (3, 1, 2, 0))
        self.assertLess(told.index((2, 0, 1, 3)), told.index((0, 3, 2, 1)))

    def test_above(self):
        self.assertEqual(above((0,)), [])
        self.assertEqual(above((0, 1)), [(1, 0)])
        self.assertEqual(above((1, 0)), [])
        self.assertEqual(above((0, 1, 2)), [(0, 2, 1), (1, 0, 2)])
        self.assertEqual(above((1, 0, 2)), [(1, 2, 0), (2, 0, 1)])
        self.assertEqual(above((1, 0, 3, 2)), [(1, 2, 3, 0), (1, 3, 0, 2), (2, 0, 3, 1), (3, 0, 1, 2)])

    def test_chain(self):
        self.assertEqual(chain((0,), (0,)), [(0,)])
        self.assertEqual(chain((0, 1, 2), (2, 1, 0)), [(0, 1, 2), (0, 2, 1), (1, 2, 0), (2, 1, 0)])
        self.assertEqual(chain((1, 0), (1, 0)), [(1, 0)])
        self.assertIsNone(chain((1, 0), (0, 1)))
        self.assertIsNone(chain((1, 0, 2), (0, 2, 1)))

    def test_counted(self):
        self.assertEqual(counted((0,)), [1])
        self.assertEqual(counted((1, 0)), [1, 1])
        self.assertEqual(counted((2, 1, 0)), [1, 2, 2, 1])
        self.assertEqual(counted((2, 3, 0, 1)), [1, 3, 5, 4, 1])
        self.assertEqual(counted((3, 2, 1, 0)), [1, 3, 5, 6, 5, 3, 1])
        self.assertEqual(counted((3, 1, 2, 0)), [1, 3, 5, 6, 4, 1])

    def test_evenly(self):
        self.assertIsNone(evenly((0,)))
        self.assertIsNone(evenly((2, 1, 0)))
        self.assertIsNone(evenly((3, 2, 1, 0)))
        self.assertEqual(evenly((2, 3, 0, 1)), (0, 1, 2, 3))
        self.assertEqual(evenly((3, 1, 2, 0)), (0, 1, 2, 3))
        self.assertEqual(evenly((0, 3, 4, 1, 2)), (1, 2, 3, 4))
        self.assertEqual(evenly((4, 0, 2, 3, 1)), (0, 2, 3, 4))
        self.assertEqual(evenly((2, 3, 4, 0, 1)), (0, 1, 3, 4))
        self.assertIs(type(evenly((2, 3, 0, 1))), tuple)

    def test_least_above_and_greatest_below(self):
        self.assertEqual(least_above((0,), (0,)), [(0,)])
        self.assertEqual(greatest_below((0,), (0,)), [(0,)])
        self.assertEqual(least_above((1, 0), (0, 1)), [(1, 0)])
        self.assertEqual(greatest_below((1, 0), (0, 1)), [(0, 1)])
        self.assertEqual(least_above((0, 2, 1), (1, 0, 2)), [(1, 2, 0), (2, 0, 1)])
        self.assertEqual(greatest_below((1, 2, 0), (2, 0, 1)), [(0, 2, 1), (1, 0, 2)])


class SmallCases(unittest.TestCase):
    """Up to four people, held against a plain going through all rows."""

    def test_between(self):
        for many in range(1, 5):
            rows = sorted(all_rows(many), key=lambda row: (turned_pairs(row), row))
            low = all_below(many)
            for one in rows:
                for two in rows:
                    told = [row for row in rows if (one, row) in low and (row, two) in low]
                    self.assertEqual(between(one, two), told)
                    even = sum(1 for row in told if turned_pairs(row) % 2 == 0)
                    if one != two:
                        self.assertEqual(2 * even, len(told))

    def test_above(self):
        for many in range(1, 6):
            rows = all_rows(many)
            for row in rows:
                self.assertEqual(above(row), plain_above(row, rows))

    def test_chain(self):
        for many in range(1, 5):
            rows = all_rows(many)
            ups = {row: plain_above(row, rows) for row in rows}
            for one in rows:
                for two in rows:
                    self.assertEqual(chain(one, two), min(plain_chains(one, two, ups), default=None))

    def test_counted_and_evenly(self):
        for many in range(1, 6):
            rows = all_rows(many)
            low = all_below(many)
            for row in rows:
                counts = plain_counted(row, rows, low)
                self.assertEqual(counted(row), counts)
                self.assertEqual(evenly(row), min(uneven_places(row), default=None))
                self.assertIs(evenly(row) is None, counts == counts[::-1])

    def test_least_above_and_greatest_below(self):
        for many in range(1, 5):
            rows = all_rows(many)
            low = all_below(many)
            for one in rows:
                for two in rows:
                    both = [row for row in rows if (one, row) in low and (two, row) in low]
                    least = [row for row in both if not any((other, row) in low for other in both if other != row)]
                    self.assertEqual(least_above(one, two), least)
                    both = [row for row in rows if (row, one) in low and (row, two) in low]
                    most = [row for row in both if not any((row, other) in low for other in both if other != row)]
                    self.assertEqual(greatest_below(one, two), most)


class SixPeople(unittest.TestCase):
    ROWS = [SIX, SIX[::-1], (3, 5, 1, 4, 0, 2), (1, 0, 3, 2, 5, 4), (2, 0, 4, 1, 5, 3), (4, 5, 2, 3, 0, 1), (0, 5, 1, 4, 2, 3)]

    def test_all_rows_lie_between_the_first_and_the_last(self):
        with Within(60):
            told = between(SIX, SIX[::-1])
            self.assertEqual(told, sorted(all_rows(6), key=lambda row: (turned_pairs(row), row)))
            self.assertEqual(counted(SIX[::-1]), [1, 5, 14, 29, 49, 71, 90, 101, 101, 90, 71, 49, 29, 14, 5, 1])

    def test_between_has_as_many_of_each_parity(self):
        with Within(60):
            for low in self.ROWS:
                for high in self.ROWS:
                    told = between(low, high)
                    self.assertEqual(len(told) > 0, below(low, high))
                    self.assertEqual(told, sorted(set(told), key=lambda row: (turned(row), row)))
                    if low != high:
                        self.assertEqual(sum((-1) ** turned(row) for row in told), 0)

    def test_chains_go_up_one_by_one(self):
        with Within(60):
            for low in self.ROWS:
                for high in self.ROWS:
                    told = chain(low, high)
                    if not below(low, high):
                        self.assertIsNone(told)
                        continue
                    self.assertEqual((told[0], told[-1], len(told)), (low, high, turned(high) - turned(low) + 1))
                    for row, up in itertools.pairwise(told):
                        self.assertEqual(up, min(other for other in above(row) if below(other, high)))

    def test_counted_and_evenly(self):
        with Within(60):
            for row in self.ROWS:
                counts = counted(row)
                self.assertEqual((counts[0], len(counts)), (1, turned(row) + 1))
                self.assertEqual(sum(counts), len(between(SIX, row)))
                self.assertIs(evenly(row) is None, counts == counts[::-1])
                self.assertEqual(evenly(row), min(uneven_places(row), default=None))

    def test_least_above_and_greatest_below(self):
        with Within(120):
            for one in self.ROWS:
                for two in self.ROWS:
                    least = least_above(one, two)
                    most = greatest_below(one, two)
                    self.assertEqual((least, most), (sorted(set(least)), sorted(set(most))))
                    self.assertTrue(all(below(one, row) and below(two, row) for row in least))
                    self.assertTrue(all(below(row, one) and below(row, two) for row in most))
                    for row in all_rows(6)[::9]:
                        under = any(below(here, row) for here in least)
                        self.assertIs(under, below(one, row) and below(two, row))
                        over = any(below(row, here) for here in most)
                        self.assertIs(over, below(row, one) and below(row, two))
                    for rows in (least, most):
                        self.assertFalse(any(below(here, other) for here in rows for other in rows if here != other))


class NinePeople(unittest.TestCase):
    def test_above_goes_to_nine(self):
        self.assertEqual(above(NINE), sorted((*NINE[:k], k + 1, k, *NINE[k + 2:]) for k in range(8)))
        self.assertEqual(above(NINE[::-1]), [])
        row = (4, 8, 0, 2, 7, 1, 3, 6, 5)
        told = above(row)
        self.assertEqual(told, sorted(set(told)))
        exchanged = []
        for one, two in itertools.combinations(range(9), 2):
            people = list(row)
            people[one], people[two] = row[two], row[one]
            exchanged.append(tuple(people))
        self.assertEqual(told, sorted(other for other in exchanged if turned_pairs(other) == turned_pairs(row) + 1))
        for other in told:
            self.assertIs(below(row, other), True)


class Refused(Refusing, unittest.TestCase):
    def test_no_row(self):
        for row in NO_ROW:
            for call in (above, counted, evenly):
                self.refused(NoRow, call, row)
            for call in (between, chain, least_above, greatest_below):
                self.refused(NoRow, call, row, (0, 1))
                self.refused(NoRow, call, (0, 1), row)

    def test_unlike(self):
        for call in (between, chain, least_above, greatest_below):
            self.refused(Unlike, call, (0,), (0, 1))
            self.refused(Unlike, call, (1, 0, 2), (0, 1))
            self.refused(Unlike, call, NINE, NINE[:8])
            self.refused(Unlike, call, SEVEN, SIX)
            self.refused(Unlike, call, SIX, SEVEN)

    def test_too_many(self):
        for row in (SEVEN, SEVEN[::-1], NINE[:8], NINE, NINE[::-1]):
            for call in (counted, evenly):
                self.assertEqual(self.refused(TooMany, call, row), len(row))
            for call in (between, chain, least_above, greatest_below):
                self.assertEqual(self.refused(TooMany, call, row, row), len(row))
                self.assertEqual(self.refused(TooMany, call, row, tuple(range(len(row)))), len(row))
                self.assertEqual(self.refused(TooMany, call, row[::-1], row), len(row))

    def test_the_order_of_refusals(self):
        for call in (between, chain, least_above, greatest_below):
            self.refused(NoRow, call, SEVEN, SEVEN[1:])
            self.refused(NoRow, call, (0, 0), (0, 1, 2))
            self.refused(NoRow, call, [0], SEVEN)
        for call in (counted, evenly):
            self.refused(NoRow, call, SEVEN[1:])


if __name__ == "__main__":
    unittest.main()

"""Points [23], [24], and [2], [4] and [8] as far as they speak of these."""

import itertools
import unittest

from maymeet.errors import NoBook, NoFar, NoKinds, NoMany, TooMany, Unlike
from maymeet.kinds import far_fails, far_rows, kinds_farthest, kinds_let
from maymeet.lets import farthest, lets
from tests.plain import (NO_BOOK, NO_MANY, Refusing, Within, all_below, all_rows, corner, gone_rows, mixed_books,
                         small_books, turned_pairs)

MUCH = 10 ** 20 - 1

# None of these is a row of kinds.
NO_KINDS = [
    None, True, False, 0, 1, 1.5, "", "01", b"\x00", [], [0], [0, 1], {}, {0: 0}, {0}, range(2), object(), len,
    (), (-1,), (True,), (False,), (0, True), (False, 1), (0.0,), (0, 1.0), ("0",), (None,), ((0,),), ([0],), (0, None),
    (0, -1), (-10 ** 19, 0), (0,) * 10, (0, 1, 2, 3, 4, 5, 6, 7, 8, 9), (0,) * 1000,
]

# None of these is a far book of three people.
NO_FAR = [
    None, True, False, 0, 1, 1.5, "", "01", b"\x00", [], [(0, 1)], {}, {(0, 1): 1}, {(0, 1)}, range(2), object(), len,
    (0, 1), (0,), (None,), ("01",), ([0, 1],), ((),), ((0,),), ((0, 1, 2),), ((0, 0),), ((1, 0),), ((2, 1),), ((1, 1),),
    ((0, 3),), ((3, 4),), ((-1, 0),), ((-2, -1),), ((0, True),), ((False, 1),), ((False, True),), ((0, 1.0),),
    ((0.0, 2),), (("0", "1"),), ((0, None),), ((None, 1),), ((0, (1,)),), (((0, 1),),), ((0, 1), (1, 0)), ((0, 1), 1),
    ((0, 10 ** 20),), ((0, 1), (0, 2), [1, 2]),
]


def firsts(many):
    """All rising rows of many kinds, of at most three unlike ones, some with numbers left out."""
    told = list(itertools.combinations_with_replacement(range(3), many))
    return told + [tuple(7 * kind + 2 for kind in first) for first in told[::3]] + [tuple(range(many))]


def kinds_of(first, row):
    return tuple(first[person] for person in row)


def plain_kinds_farthest(book, first):
    kinds = list(first)
    for gap in book:
        if kinds[gap] < kinds[gap + 1]:
            kinds[gap], kinds[gap + 1] = kinds[gap + 1], kinds[gap]
    return tuple(kinds)


def no_corner_more(kinds, far):
    places = range(len(kinds) + 1)
    return all(corner(kinds, i, j) <= corner(far, i, j) for i in places for j in {*kinds, 0})


def far_meetings(many):
    return list(itertools.combinations(range(many), 2))


def far_books(many):
    """A far book for each set of rows that far books of so many people can let, and some longer ones."""
    meetings = far_meetings(many)
    books = {frozenset([tuple(range(many))]): ()}
    late = list(books)
    while late:
        rows = late.pop(0)
        for meeting in meetings:
            come = rows | {with_two_exchanged(row, *meeting) for row in rows}
            if come not in books:
                books[come] = books[rows] + (meeting,)
                late.append(come)
    told = list(books.values())
    for long in (3, 5, 8, 9) if meetings else ():
        told += [tuple(meetings[k] for k in book) for book in mixed_books(len(meetings) + 1, long, 25)]
    return told


def with_two_exchanged(row, one, two):
    people = list(row)
    people[one], people[two] = people[two], people[one]
    return tuple(people)


def plain_far_rows(book, many):
    """The set of rows at the end of all goings, one by one."""
    rows = []
    for going in itertools.product((False, True), repeat=len(book)):
        row = tuple(range(many))
        for (one, two), change in zip(book, going):
            if change:
                row = with_two_exchanged(row, one, two)
        rows.append(row)
    return set(rows)


def plain_far_fails(come, many, low):
    """By the sentence of [24], of the set of rows that come and the set of pairs one below the other."""
    rows = all_rows(many)
    if any(come == {row for row in rows if (row, high) in low} for high in come):
        return None
    missing = [row for row in rows if row not in come and any((row, other) in low for other in come)]
    if missing:
        first = min(missing, key=lambda row: (turned_pairs(row), row))
        return (first, max(other for other in come if (first, other) in low))
    highest = [row for row in come if not any(row != other and (row, other) in low for other in come)]
    return tuple(sorted(highest, key=lambda row: (-turned_pairs(row), row))[:2])


class Kinds(unittest.TestCase):
    def test_told(self):
        self.assertEqual(kinds_farthest((), (5,)), (5,))
        self.assertEqual(kinds_farthest((0,), (3, 3)), (3, 3))
        self.assertEqual(kinds_farthest((0,), (3, 4)), (4, 3))
        self.assertEqual(kinds_farthest((0, 1), (0, 0, 1)), (0, 1, 0))
        self.assertEqual(kinds_farthest((0, 1), (0, 1, 1)), (1, 1, 0))
        self.assertIs(kinds_let((), (5,), (5,)), True)
        self.assertIs(kinds_let((0, 1), (0, 0, 1), (0, 1, 0)), True)
        self.assertIs(kinds_let((0, 1), (0, 0, 1), (1, 0, 0)), False)
        self.assertIs(kinds_let((1, 0), (0, 0, 1), (1, 0, 0)), True)
        self.assertIs(kinds_let((), (0, 1), (1, 0)), False)

    def test_small_cases(self):
        for many in range(1, 5):
            for book in small_books(many)[::1 if many < 4 else 7]:
                rows = gone_rows(book, many)
                for first in firsts(many):
                    come = {kinds_of(first, row) for row in rows}
                    far = kinds_farthest(book, first)
                    self.assertEqual(far, plain_kinds_farthest(book, first))
                    self.assertIs(type(far), tuple)
                    for kinds in set(itertools.permutations(first)):
                        self.assertIs(kinds_let(book, first, kinds), kinds in come)
                        self.assertIs(kinds in come, no_corner_more(kinds, far))

    def test_unlike_kinds_are_people(self):
        for many in (1, 2, 3, 4, 5):
            for book in mixed_books(many, 6, 5) if many > 1 else [()]:
                self.assertEqual(kinds_farthest(book, tuple(range(many))), farthest(book, many))
                for row in all_rows(many)[::3]:
                    self.assertIs(kinds_let(book, tuple(range(many)), row), lets(book, row))

    def test_great_kinds(self):
        first = (0, MUCH - 1, MUCH)
        self.assertEqual(kinds_farthest((0, 1, 0), first), (MUCH, MUCH - 1, 0))
        self.assertIs(kinds_let((0, 1, 0), first, (MUCH - 1, MUCH, 0)), True)
        self.assertIs(kinds_let((1,), first, (MUCH - 1, 0, MUCH)), False)
        self.assertIs(kinds_let((1,), first, (0, MUCH, MUCH - 1)), True)

    def test_nine_people_and_sixty_meetings(self):
        with Within(20):
            for book in mixed_books(9, 60, 10):
                for first in [(0,) * 9, (0, 0, 0, 1, 1, 1, 2, 2, 2), (1, 1, 1, 1, 1, 1, 1, 1, MUCH), tuple(range(9))]:
                    far = kinds_farthest(book, first)
                    self.assertEqual(far, plain_kinds_farthest(book, first))
                    for kinds in (first, far, first[::-1], far[::-1], far[1:] + far[:1]):
                        self.assertIs(kinds_let(book, first, kinds), no_corner_more(kinds, far))


class FarBooks(unittest.TestCase):
    def test_told(self):
        self.assertEqual(far_rows((), 1), [(0,)])
        self.assertEqual(far_rows((), 2), [(0, 1)])
        self.assertEqual(far_rows(((0, 2),), 3), [(0, 1, 2), (2, 1, 0)])
        self.assertEqual(far_rows(((0, 1), (0, 1)), 2), [(0, 1), (1, 0)])
        self.assertIsNone(far_fails((), 1))
        self.assertIsNone(far_fails((), 6))
        self.assertIsNone(far_fails(((0, 1), (1, 2)), 3))
        self.assertEqual(far_fails(((0, 2),), 3), ((0, 2, 1), (2, 1, 0)))

    def test_two_highest_rows(self):
        book = ((0, 1), (1, 3), (2, 3), (0, 2), (1, 2))
        self.assertEqual(far_fails(book, 4), ((2, 3, 1, 0), (3, 1, 0, 2)))
        self.assertEqual(far_fails(((1, 2), (0, 2), (2, 3), (1, 3), (0, 1)), 4), ((3, 2, 0, 1), (2, 1, 3, 0)))

    def test_the_first_that_does_not_come_and_the_last_that_does(self):
        # Both (0, 2, 1) and (1, 0, 2) do not come; both (1, 2, 0) and (2, 1, 0) do, above (0, 2, 1).
        self.assertEqual(far_rows(((0, 2), (0, 1)), 3), [(0, 1, 2), (1, 0, 2), (1, 2, 0), (2, 1, 0)])
        self.assertEqual(far_fails(((0, 2), (0, 1)), 3), ((0, 2, 1), (2, 1, 0)))

    def test_both_parts_of_the_sentence_are_needed(self):
        parts = {"none": 0, "missing": 0, "two": 0}
        for book in far_books(4):
            told = far_fails(book, 4)
            if told is None:
                parts["none"] += 1
            else:
                parts["two" if told[0] in far_rows(book, 4) else "missing"] += 1
        self.assertGreater(min(parts.values()), 0)

    def test_small_cases(self):
        for many in range(1, 5):
            low = all_below(many)
            for book in far_books(many):
                come = plain_far_rows(book, many)
                self.assertEqual(far_rows(book, many), sorted(come))
                self.assertEqual(far_fails(book, many), plain_far_fails(come, many, low))

    def test_five_people(self):
        low = all_below(5)
        meetings = far_meetings(5)
        for long in (1, 2, 3, 5, 7, 9):
            for gaps in mixed_books(len(meetings) + 1, long, 6):
                book = tuple(meetings[k] for k in gaps)
                self.assertEqual(far_fails(book, 5), plain_far_fails(set(far_rows(book, 5)), 5, low))

    def test_meetings_of_neighbours_are_a_book(self):
        for many in (2, 3, 4, 5, 6):
            for book in mixed_books(many, 8, 4):
                far_book = tuple((gap, gap + 1) for gap in book)
                self.assertEqual(far_rows(far_book, many), [row for row in all_rows(many) if lets(book, row)])
                self.assertIsNone(far_fails(far_book, many))

    def test_sixty_meetings_of_six_people(self):
        meetings = far_meetings(6)
        with Within(60):
            for gaps in mixed_books(16, 60, 2):
                book = tuple(meetings[k] for k in gaps)
                self.assertEqual(far_rows(book, 6), all_rows(6))
                self.assertIsNone(far_fails(book, 6))
            self.assertEqual(len(far_rows(((0, 5),) * 60, 6)), 2)
            self.assertEqual(far_fails(((0, 5),) * 60, 6), ((0, 1, 2, 3, 5, 4), (5, 1, 2, 3, 4, 0)))


class Refused(Refusing, unittest.TestCase):
    def test_no_kinds(self):
        for kinds in NO_KINDS:
            self.refused(NoKinds, kinds_farthest, (), kinds)
            self.refused(NoKinds, kinds_let, (), kinds, (0,))
            self.refused(NoKinds, kinds_let, (), (0,), kinds)

    def test_a_first_row_that_falls(self):
        for first in [(1, 0), (0, 2, 1), (3, 3, 2), (1, 1, 0, 1), (MUCH, 0), (0, 1, 2, 3, 4, 5, 6, 8, 7)]:
            self.refused(NoKinds, kinds_farthest, (), first)
            self.refused(NoKinds, kinds_let, (), first, first)

    def test_no_book(self):
        for book in NO_BOOK:
            self.refused(NoBook, kinds_farthest, book, (0, 0, 1))
            self.refused(NoBook, kinds_let, book, (0, 0, 1), (0, 0, 1))
        self.refused(NoBook, kinds_farthest, (0,), (4,))
        self.refused(NoBook, kinds_let, (8,), (0,) * 9, (0,) * 9)

    def test_unlike(self):
        for kinds in [(0,), (0, 1), (0, 1, 1), (0, 0, 2), (1, 1, 0), (0, 0, 0, 1), (0,) * 9]:
            self.refused(Unlike, kinds_let, (0, 1), (0, 0, 1), kinds)

    def test_no_far(self):
        for book in NO_FAR:
            self.refused(NoFar, far_rows, book, 3)
            self.refused(NoFar, far_fails, book, 3)
        self.refused(NoFar, far_rows, ((0, 1),), 1)
        self.refused(NoFar, far_fails, ((0, 6),), 6)

    def test_no_many(self):
        for many in NO_MANY:
            self.refused(NoMany, far_rows, (), many)
            self.refused(NoMany, far_fails, (), many)

    def test_too_many(self):
        for many in (7, 8, 9):
            for book in ((), ((0, 1),), ((0, many - 1), (many - 2, many - 1))):
                self.assertEqual(self.refused(TooMany, far_rows, book, many), many)
                self.assertEqual(self.refused(TooMany, far_fails, book, many), many)

    def test_the_order_of_refusals(self):
        self.refused(NoKinds, kinds_let, [0], (0, -1), None)
        self.refused(NoKinds, kinds_let, (9,), (1, 0), (0, 1))
        self.refused(NoKinds, kinds_farthest, (9,), (1, 0))
        self.refused(NoBook, kinds_let, (1,), (0, 1), None)
        self.refused(NoBook, kinds_let, (1,), (0, 1), (0, 0))
        self.refused(NoKinds, kinds_let, (0,), (0, 1), (0, -1, 1))
        self.refused(NoMany, far_rows, None, 0)
        self.refused(NoMany, far_fails, ((1, 0),), 10)
        self.refused(NoFar, far_rows, ((0, 7),), 7)
        self.refused(NoFar, far_fails, [], 9)


if __name__ == "__main__":
    unittest.main()

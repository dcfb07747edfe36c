"""A plain going through all goings, to hold the program against, and other help for the tests."""

import itertools
import signal

NO_WHOLE = [None, True, False, 0.0, 1.0, 2.5, "", "1", b"\x01", [], [1], (), (1,), {}, {1: 1}, {1}, range(1), object(), len]

NO_MANY = NO_WHOLE + [0, -1, 10, 11, 10 ** 20, -10 ** 20]

NO_ROW = [
    None, True, False, 0, 1, 2, 1.5, "", "01", b"\x00\x01", [], [0], [0, 1], {}, {0: 0}, {0}, range(1), object(), len,
    (), (1,), (-1,), (0, 0), (1, 1), (0, 2), (1, 2), (1, 2, 3), (0, 1, 1), (-1, 0), (10 ** 20,),
    (True,), (False,), (0, True), (False, 1), (True, False), (0, 1.0), (0.0,), (0, "1"), ("0",), (None,), ([],), ((0,),),
    (0, None), ([0], [1]), ({},), (0, 1, 2, 3, 4, 5, 6, 7, 8, 9), (0, 1, 2, 3, 4, 5, 6, 7, 9), (0,) * 9, (0,) * 1000,
]

# None of these is a book of three people.
NO_BOOK = [
    None, True, False, 0, 1, 1.5, "", "01", b"\x00", [], [0], [0, 1], {}, {0: 1}, {0}, range(2), object(), len,
    (2,), (-1,), (0, 2), (0, -1), (10 ** 20,), (True,), (False,), (0, True), (0, False), (0.0,), (1.0,), ("0",), (None,),
    ((0,),), ([0],), (0, (1,)), (0, None), (0,) * 60 + (2,),
]

# None of these is a weight.
NO_WEIGHT = [
    None, True, False, 0, 1, 1.5, "", "1", b"\x01", (), (1,), (0, 1), {}, {0: 1}, {1}, range(1), object(), len,
    [0], [1, 0], [0, 0], [True], [False], [0, True], [True, 1], [1, False], [1.0], [1, 2.5], ["1"], [None], [[]], [[1]],
    [(1,)], [1, None], [1, [1]],
]

# None of these is a table.
NO_TABLE = [
    None, True, False, 0, 1, 1.5, "", "01", b"\x01", (), {}, {(0, 1): [1]}, {1}, range(1), object(), len,
    [], [None], [1], [()], [[]], ["01"], [(0, 1)], [((0, 1),)], [[(0, 1), [1]]], (((0, 1), [1]),), [((0, 1), [1], 1)],
    [((0, 1), 1)], [((0, 1), (1,))], [([0, 1], [1])], [((0, 2), [1])], [((), [1])], [((0, True), [1])], [([1], (0, 1))],
    [((0, 1), [1]), ((0, 1), [1])], [((1, 0), [1]), ((0, 1), [1])], [((0,), [1]), ((0, 1), [1])],
    [((0, 1), [1]), ((1, 0, 2), [1])], [((0, 1), [1]), None], [((0, 1), [1]), ((1, 0), [])],
    [((0, 1, 2), [1]), ((2, 0, 1), [1]), ((1, 0, 2), [1])], [((0, 1, 2), [1]), ((1, 0, 2), [1]), ((1, 0, 2), [2])],
    [((0, 1, 2, 3, 4, 5, 6, 7, 8, 9), [1])], [((0, 1), []), ((1, 0), [1])], *([((0, 1), weight)] for weight in NO_WEIGHT),
]

# None of these is a going through a book of two meetings.
NO_GOING = [
    None, True, False, 0, 2, "x.", "", b"xx", [], [True, False], {}, {True: False}, {True}, range(2), object(), len,
    (), (True,), (False,), (True, False, True), (0, 1), (1, 0), (0, 0), (True, 1), (0, False), (None, None),
    (True, None), ("", "x"), ((True,), (False,)), (1.0, 0.0), (True, False, False, False),
]


def exchanged(row, gap):
    people = list(row)
    people[gap], people[gap + 1] = people[gap + 1], people[gap]
    return tuple(people)


def all_rows(many):
    return list(itertools.permutations(range(many)))


def all_books(many, meetings):
    return list(itertools.product(range(many - 1), repeat=meetings))


def all_goings(book, many):
    """Go through all goings in their order: the list of (going, row)."""
    told = [((), tuple(range(many)))]
    for gap in book:
        told = [((*going, change), exchanged(row, gap) if change else row)
                for going, row in told for change in (False, True)]
    return told


def by_row(book, many):
    """The goings that lead to each row, in their order."""
    told = {}
    for going, row in all_goings(book, many):
        told.setdefault(row, []).append(going)
    return told


def gone_rows(book, many):
    """The set of all rows that come at the end of some going."""
    return set(by_row(book, many))


def turned_pairs(row):
    return sum(1 for one, two in itertools.combinations(row, 2) if one > two)


def plain_farthest(book, many):
    row = tuple(range(many))
    for gap in book:
        if row[gap] < row[gap + 1]:
            row = exchanged(row, gap)
    return row


def corner(row, i, j):
    return sum(1 for person in row[:i] if person >= j)


def least_unlike(row, other):
    """The least corner that has more in row than in other, or None."""
    people = range(len(row) + 1)
    unlike = [(i, j) for i in people for j in people if corner(row, i, j) > corner(other, i, j)]
    return min(unlike, default=None)


def is_below(row, other):
    return least_unlike(row, other) is None


def all_below(many):
    """The set of all pairs (row, other) of rows of so many people, the one below the other."""
    rows = all_rows(many)
    return {(row, other) for row in rows for other in rows if is_below(row, other)}


def shortest_books(many):
    """All shortest books of each row, rising."""
    told = {}
    for meetings in range(many * (many - 1) // 2 + 1):
        for book in all_books(many, meetings):
            row = plain_farthest(book, many)
            if turned_pairs(row) == meetings:
                told.setdefault(row, []).append(book)
    return told


def meetings_of(going):
    return [k for k, change in enumerate(going) if change]


def mixed_numbers(seed, count):
    """So many mixed numbers: ever the same ones of one seed."""
    numbers = []
    for _ in range(count):
        seed = (seed * 1103515245 + 12345) % 2 ** 31
        numbers.append(seed >> 16)
    return numbers


def mixed_books(many, meetings, count):
    """Some mixed books of so many meetings: ever the same ones."""
    numbers = mixed_numbers(12345 + many * 100 + meetings, meetings * count)
    return [tuple(number % (many - 1) for number in numbers[k * meetings:(k + 1) * meetings]) for k in range(count)]


def small_books(many):
    """All books of at most five meetings, for few people of eight, else some of six to eight."""
    if many == 1:
        return [()]
    whole = 8 if many < 4 else 5
    books = [book for meetings in range(whole + 1) for book in all_books(many, meetings)]
    for meetings in range(whole + 1, 9):
        books += mixed_books(many, meetings, 40)
    return books


def small_cases():
    """(many, book, {row: goings}) for one to four people and books of up to eight meetings."""
    for many in range(1, 5):
        for book in small_books(many):
            yield many, book, by_row(book, many)


class TooLong(Exception):
    pass


class Within:
    """Break off what takes longer than so many seconds."""

    def __init__(self, seconds):
        self.seconds = seconds

    def __enter__(self):
        def stop(number, frame):
            raise TooLong(f"longer than {self.seconds} seconds")
        self.before = signal.signal(signal.SIGALRM, stop)
        signal.alarm(self.seconds)

    def __exit__(self, *told):
        signal.alarm(0)
        signal.signal(signal.SIGALRM, self.before)


class Refusing:
    """Mixed into a TestCase: assert that a call is refused by just this class."""

    def refused(self, error, call, *args, **named):
        with self.subTest(call=call.__name__, args=repr(args)[:200], named=repr(named)[:200]):
            with self.assertRaises(error) as held:
                call(*args, **named)
            self.assertIs(type(held.exception), error)
            if "many" in vars(held.exception):
                return held.exception.many
        return None

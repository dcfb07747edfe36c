"""Point [27], and [2], [4] and [8] as far as they speak of it."""

import itertools
import re
import unittest

from maymeet.errors import MeetError, NoBook, NoGoing, NoMany, NoRow, NoTable, NoText
from maymeet.rows import is_book, is_row
from maymeet.texts import (read_book, read_going, read_row, read_table, read_weight, show_book, show_going, show_row,
                           show_table, show_weight)
from maymeet.weighed import at, is_table, met, weigh
from tests.plain import (NO_BOOK, NO_MANY, NO_ROW, NO_TABLE, NO_WEIGHT, Refusing, Within, all_books, all_goings,
                         all_rows, mixed_books, mixed_numbers)

NINE = (0, 1, 2, 3, 4, 5, 6, 7, 8)

READERS = (read_row, read_book, read_going, read_weight, read_table)

NO_KIND = [
    None, True, False, 0, 1, 1.5, b"", b"0", b"1:", b"x", b"0=1", [], ["0"], (), ("0",), (0,), {}, {"0": 1}, {"0"},
    range(1), object(), len, [1], ((0, 1), 2),
]

# What writes nothing at all.
NO_WRITING = [
    " ", "\n", "\t", "a", "%", "$", "0\n", "\n0", "0 ", " 0", "0.0", "1e3", "+0", "+1", "-0", "00", "01", "1_0", "x ",
    "X", "xo", "0x", "\u0660", "\u00b2", "\u0967", "\uff11", "q\u00b2", "0\u00a01", "2:\uff10", "\u0661=1", "0=\u0661",
    "0=1\u00b2", "None", "True", "()", "[]", "(0,)", "0,1", "nought", "~", "0;1", "=", ";", "=;=", ":", ",", "::", "^",
]

NO_ROW_TEXT = [
    "", "1", "0 0", "0 2", "1 2", "0  1", "0 1 ", " 0 1", "0,1", "01", "0 01", "00 1", "0 -1", "0 +1", "-0 1", "0 1.",
    "0\t1", "0\n1", "0 1\n", "0 1 2 3 4 5 6 7 8 9", "1 2 3", "0 1 2 3 4 5 6 7 9", "0 1 1", "0:1", "0 x", "x", "2:0", "0=1",
    "0 9" + "9" * 2000, " ".join(["0"] * 1500),
]

NO_BOOK_TEXT = [
    "", ":", "0:", "10:", "1", "3", "1:0", "3:2", "3:0,2", "3:-1", "3:0,", "3:,0", "3:,", "3:0,,1", "3: 0", "3:0, 1", "3 :0",
    " 3:", "3: ", "3:0 1", "3:01", "3:00", "03:0", "3::0", "3:0:1", "3;0", "-3:0", "+3:0", "3:+0", "3:0;", "3.:0", "3:0.",
    "2:1", "9:8", "x:0", "3:x", "x", "0 1", "00:", "11:0", "9" * 2000 + ":0", "9:" + "9" * 2000, "2:" + ",".join("0" * 1400) + ",",
]

NO_GOING_TEXT = ["0", "X", "x ", " x", "x.\n", "x,.", "o", "1", "..x:", "q", "-", "xx" * 700 + "y", "\u00d7", "x\u2024"]

NO_WEIGHT_TEXT = [
    "", "-", "+", "+1", "+q", "-0", "+0", "00", "01", "-01", "0q", "0q^2", "1q", "-1q", "1q^2", "q+1q", "q^0", "q^1", "2q^1",
    "q^", "q^-1", "q^+2", "q^02", "q^002", "2q^2+", "q+", "q-", "q+-1", "q-+1", "q--1", "q++1", "--q", "+-q", "-+q", "q+0",
    "q-0", "1+q", "q+q", "q-q", "q+1+1", "1+1", "1-1", "q^2+q^2", "q^2+q^3", "q^2+1+q", "q^2q", "qq", "q2", "2*q", "q*2",
    "2 q", "q + 1", " q", "q ", "q^ 2", "q ^2", "Q", "x", "p", "q^x", "^2", "3^2", "q^^2", "q^2^2", "2q3", "q^1000", "q^1001",
    "-q^1000", "5q^1000+1", "q^9999", "q^" + "9" * 2000, "q^1" + "0" * 2000, "q^2.", "1.5", "q=1", "q;1", "q,1", "1_000",
    "q^1_0", "2q^2+02q", "q^3+q^2+q^1", "0+q", "-q^2+-q", "q^0999", "q^999+q^1000", "9q^",
]

NO_TABLE_TEXT = [
    "", "=", ";", "0", "0=", "=1", "0=0", "0==1", "0=1;", ";0=1", "0=1;;0=1", "0=1;0=1", "0 1=1;0 1=1", "1 0=1;0 1=1",
    "0=1;0 1=1", "0 1=1;1 0 2=1", "0 1=1;1 0=0", "0 1=0;1 0=1", "0 1=1; 1 0=1", "0 1 =1", "0 1= 1", "0 1=1 ;1 0=1", "1=1",
    "0 1=1,1 0=1", "0 1:1", "0 1=1=1", "0 1=+1", "0 1=01", "0 1=1q", "0  1=1", "00 1=1", "0 1=q^1000", "0 1=q-q", "0 1=",
    "0 1=1;1 0", "0 1=1;1 0=", "0 1 2=1;2 0 1=1;1 0 2=1", "q=0 1", "0 1=1\n", "0 1=1;\n1 0=1", "0 1 2 3 4 5 6 7 8 9=1",
]


def plain_weight(terms):
    """The weight of these terms, or None where their powers do not fall."""
    weight = []
    last = None
    for sign, size, letter, power in terms:
        power = int(power) if power else 1 if letter else 0
        if last is not None and power >= last:
            return None
        last = power
        weight = weight or [0] * (power + 1)
        weight[power] = int(size or 1) * (-1 if sign == "-" else 1)
    return weight


# A term without its sign: what stands ahead of q, q, its power, or the number alone.
TERM = r"(?:([1-9][0-9]+|[2-9])?(q)(?:\^([1-9][0-9]{1,2}|[2-9]))?|([1-9][0-9]*))"


def plain_read_weight(text):
    """The weight that the text writes, by a grammar of its own, or None."""
    if text == "0":
        return []
    if not re.fullmatch(f"-?{TERM}(?:[+-]{TERM})*", text):
        return None
    terms = re.findall(f"([+-]?){TERM}", text)
    return plain_weight([(sign, size or alone, letter, power) for sign, size, letter, power, alone in terms])


def words(signs, most):
    """All texts of at most so many of these signs."""
    return ["".join(word) for long in range(most + 1) for word in itertools.product(signs, repeat=long)]


def with_one_sign_otherwise(text, signs):
    """All texts with one sign put in, left out, or in place of another one."""
    told = [text[:k] + text[k + 1:] for k in range(len(text))]
    told += [text[:k] + sign + text[k:] for k in range(len(text) + 1) for sign in signs]
    told += [text[:k] + sign + text[k + 1:] for k in range(len(text)) for sign in signs if sign != text[k]]
    return told


def show_any_book(thing):
    return show_book(*thing)


def some_weights():
    """Weights of small parts, of some long numbers, and of the highest power."""
    told = [list(parts) for long in range(5) for parts in itertools.product((-2, -1, 0, 1, 10), repeat=long)]
    told = [weight for weight in told if not weight or weight[-1] != 0]
    return told + [[10 ** 2990], [-10 ** 59], [10 ** 60], [10 ** 60 - 1, -10 ** 60], [10 ** 120 + 7, 10 ** 180, 5 * 10 ** 61],
                   [0] * 999 + [1], [0] * 999 + [-7], [5] + [0] * 998 + [1], [1, -1] * 500, [0] * 10 + [1, 0, 3]]


class Told(unittest.TestCase):
    def both(self, show, read, things):
        for text, thing in things.items():
            with self.subTest(text=text[:80]):
                self.assertEqual(show(thing), text)
                self.assertEqual(repr(read(text)), repr(thing))

    def test_rows(self):
        self.both(show_row, read_row, {"0": (0,), "0 1": (0, 1), "2 0 1": (2, 0, 1), "8 7 6 5 4 3 2 1 0": NINE[::-1]})

    def test_books(self):
        self.both(show_any_book, read_book, {
            "1:": ((), 1), "3:": ((), 3), "9:": ((), 9), "2:0": ((0,), 2), "3:0,1,0": ((0, 1, 0), 3), "9:7,0": ((7, 0), 9),
        })

    def test_goings(self):
        self.both(show_going, read_going, {"": (), "x": (True,), ".": (False,), "x..x": (True, False, False, True)})

    def test_weights(self):
        self.both(show_weight, read_weight, {
            "0": [], "1": [1], "-1": [-1], "7": [7], "-12": [-12], "q": [0, 1], "-q": [0, -1], "2q": [0, 2], "q-1": [-1, 1],
            "q+1": [1, 1], "-q+1": [1, -1], "-q-1": [-1, -1], "q^2": [0, 0, 1], "-q^2": [0, 0, -1], "3q^2-q+1": [1, -1, 3],
            "-10q^3-10q-10": [-10, -10, 0, -10], "q^10+11q^2-q": [0, -1, 11] + [0] * 7 + [1], "1000": [1000],
            "q^999": [0] * 999 + [1], "-2q^999+q^100-9": [-9] + [0] * 99 + [1] + [0] * 898 + [-2],
        })

    def test_tables(self):
        self.both(show_table, read_table, {
            "0=1": [((0,), [1])], "0=-q": [((0,), [0, -1])], "0 1=q-1;1 0=1": [((0, 1), [-1, 1]), ((1, 0), [1])],
            "0 2 1=3q^2-q+1;2 0 1=-5": [((0, 2, 1), [1, -1, 3]), ((2, 0, 1), [-5])],
            "0 1 2 3 4 5 6 7 8=1;8 7 6 5 4 3 2 1 0=-1": [(NINE, [1]), (NINE[::-1], [-1])],
        })


class ThereAndBack(unittest.TestCase):
    """What is written reads back as it was."""

    def test_rows(self):
        for many in range(1, 6):
            for row in all_rows(many):
                self.assertEqual(read_row(show_row(row)), row)

    def test_books(self):
        for many in range(1, 10):
            books = [()] if many == 1 else all_books(many, 2) + mixed_books(many, 60, 3) + mixed_books(many, 1400, 1)
            for book in books:
                self.assertEqual(read_book(show_book(book, many)), (book, many))

    def test_goings(self):
        for going, _ in all_goings((0,) * 7, 2):
            self.assertEqual(read_going(show_going(going)), going)
        going = tuple(number % 2 == 0 for number in mixed_numbers(5, 3000))
        self.assertEqual(read_going(show_going(going)), going)
        self.assertEqual({type(change) for change in read_going("x.x")}, {bool})

    def test_weights(self):
        for weight in some_weights():
            self.assertEqual(read_weight(show_weight(weight)), weight)
        self.assertEqual(len({show_weight(weight) for weight in some_weights()}), len(some_weights()))

    def test_tables(self):
        for many in range(1, 7):
            for book in [()] if many == 1 else mixed_books(many, 9, 3):
                table = weigh(book, many)
                self.assertEqual(read_table(show_table(table)), table)

    def test_a_long_table(self):
        with Within(60):
            table = weigh(mixed_books(6, 60, 1)[0], 6)
            self.assertGreater(len(show_table(table)), 100000)
            self.assertEqual(read_table(show_table(table)), table)
            self.assertEqual(met(read_table(show_table(table)), 0), met(table, 0))

    def test_long_numbers(self):
        for text in ("9" * 2999, "1" + "0" * 2998, "-" + "7" * 2998, "8" * 1400 + "q^2-" + "3" * 1400):
            self.assertEqual(show_weight(read_weight(text)), text)
        self.assertEqual(read_weight("1" + "0" * 2998), [10 ** 2998])
        for long in range(1, 200):
            number = 7 * 10 ** long + 3
            self.assertEqual(read_weight(str(number)), [number])
            self.assertEqual(show_weight([0, -number]), f"-{number}q")

    def test_a_worth_is_a_whole_number(self):
        worth = at([0] * 400 + [1], 10 ** 19)
        self.assertEqual(show_weight([worth]), "1" + "0" * 7600)
        self.assertEqual(read_weight("1" + "0" * 7600), [worth])


class OneWriting(unittest.TestCase):
    """Held against a plain going through all short texts, and through all that have one sign otherwise."""

    def of_all(self, read, texts, told):
        """Read all the texts: those that write something write what is told of them, and no others are read."""
        for text in texts:
            try:
                thing = read(text)
            except NoText:
                thing = None
            self.assertEqual(thing, told.get(text), text)

    def test_all_short_rows(self):
        told = {" ".join(map(str, row)): row for many in (1, 2, 3) for row in all_rows(many)}
        self.of_all(read_row, words("0123 -", 5), told)

    def test_all_short_books(self):
        books = [(book, many) for many in (1, 2, 3) for long in range(3) for book in (all_books(many, long) if many > 1 else [()])]
        told = {f"{many}:{','.join(map(str, book))}": (book, many) for book, many in books}
        self.of_all(read_book, words("0123:,", 5), told)

    def test_all_short_goings(self):
        told = {"".join("x" if change else "." for change in going): going
                for long in range(6) for going, _ in all_goings((0,) * long, 2)}
        self.of_all(read_going, words("x.X0", 5), told)

    def test_all_short_weights(self):
        texts = words("012q^+-", 5)
        told = {text: plain_read_weight(text) for text in texts}
        self.assertGreater(len([text for text in texts if told[text] is not None]), 500)
        self.of_all(read_weight, texts, told)
        for text in texts:
            if told[text] is not None:
                self.assertEqual(show_weight(told[text]), text)

    def test_all_short_tables(self):
        told = {f"0={text}": [((0,), plain_read_weight(text))] for text in words("01q-", 3) if plain_read_weight(text)}
        self.of_all(read_table, words("01q-=;", 5), told)

    def test_one_sign_otherwise(self):
        cases = [
            (show_row, read_row, ["0", "1 0", "2 0 1", "8 7 6 5 4 3 2 1 0"]),
            (show_any_book, read_book, ["1:", "3:0,1,0", "9:7,0,3", "2:"]),
            (show_going, read_going, ["", "x", "x..x"]),
            (show_weight, read_weight, ["0", "-1", "3q^2-q+1", "-q^999+10q^12-q", "q", "20q-7"]),
            (show_table, read_table, ["0=1", "0 1=q-1;1 0=1", "0 1 2=-q^2+3;0 2 1=q;2 1 0=-12"]),
        ]
        for show, read, texts in cases:
            for text in texts:
                thing = read(text)
                for other in with_one_sign_otherwise(text, "0129 ,:;=^+-qx.~\n"):
                    try:
                        told = read(other)
                    except NoText:
                        continue
                    self.assertEqual(show(told), other)
                    self.assertNotEqual(repr(told), repr(thing))


class Refused(Refusing, unittest.TestCase):
    def test_things_of_other_kinds(self):
        for read in READERS:
            for thing in NO_KIND:
                self.refused(NoText, read, thing)

    def test_what_writes_nothing(self):
        for read in READERS:
            for text in NO_WRITING:
                self.refused(NoText, read, text)

    def test_no_text(self):
        for read, texts in zip(READERS, (NO_ROW_TEXT, NO_BOOK_TEXT, NO_GOING_TEXT, NO_WEIGHT_TEXT, NO_TABLE_TEXT)):
            for text in texts:
                self.refused(NoText, read, text)

    def test_each_sign_alone(self):
        told = {read_row: "0", read_book: "", read_going: "x.", read_weight: "0123456789q", read_table: ""}
        for read, known in told.items():
            for code in range(0, 256):
                if chr(code) not in known:
                    self.refused(NoText, read, chr(code))

    def test_power_999_and_the_one_behind_it(self):
        self.assertEqual(len(read_weight("q^999")), 1000)
        self.assertEqual(len(read_weight("-3q^999+q")), 1000)
        self.refused(NoText, read_weight, "q^1000")
        self.refused(NoText, read_table, "0=q^1000")
        self.assertEqual(read_table("0=q^999"), [((0,), [0] * 999 + [1])])

    def test_show_row(self):
        for row in NO_ROW:
            self.refused(NoRow, show_row, row)

    def test_show_book(self):
        for many in NO_MANY:
            self.refused(NoMany, show_book, (), many)
            self.refused(NoMany, show_book, None, many)
        for book in NO_BOOK:
            self.refused(NoBook, show_book, book, 3)
        self.refused(NoBook, show_book, (0,), 1)

    def test_show_going(self):
        for going in (None, True, "x.", [True], {True}, (1,), (0, 1), (True, 1), (None,), ("x",), ((True,),), (1.0,), range(2)):
            self.refused(NoGoing, show_going, going)

    def test_show_weight(self):
        for weight in NO_WEIGHT:
            self.refused(NoTable, show_weight, weight)

    def test_show_table(self):
        for table in NO_TABLE:
            self.refused(NoTable, show_table, table)
        self.refused(NoTable, show_table, [(NINE, [])])

    def test_mixed_texts(self):
        signs = "0123456789 ,:;=^+-qx."
        numbers = mixed_numbers(27, 60000)
        for begin in range(0, 60000, 12):
            text = "".join(signs[number % len(signs)] for number in numbers[begin:begin + numbers[begin] % 12])
            for read in READERS:
                with self.subTest(read=read.__name__, text=text):
                    try:
                        told = read(text)
                    except MeetError as error:
                        self.assertIs(type(error), NoText)
                        continue
                    if read is read_row:
                        self.assertTrue(is_row(told))
                    elif read is read_book:
                        self.assertTrue(is_book(*told))
                    elif read is read_table:
                        self.assertTrue(is_table(told))


if __name__ == "__main__":
    unittest.main()

"""Rows, books, goings, weights and tables written as texts, and read back; each has one writing."""

from maymeet.errors import NoGoing, NoText
from maymeet.rows import check_book, check_row, is_book, is_many, is_row
from maymeet.weighed import check_table, check_weight, is_table

HIGHEST_POWER = 999


def check_text(text):
    """Refuse what is no text."""
    if not isinstance(text, str):
        raise NoText()


def show_number(number):
    """Write a whole number from 0 on."""
    # Python itself writes and reads numbers of some thousand figures at most: longer ones go piece by piece.
    pieces = []
    while number >= 10 ** 60:
        number, low = divmod(number, 10 ** 60)
        pieces.append(str(low).zfill(60))
    pieces.append(str(number))
    return "".join(pieces[::-1])


def read_number(text):
    """Read a whole number from 0 on, without noughts ahead."""
    if not text.isascii() or not text.isdigit():
        raise NoText()
    if text.startswith("0") and text != "0":
        raise NoText()
    ahead = len(text) % 60
    number = int("0" + text[:ahead])
    for begin in range(ahead, len(text), 60):
        number = number * 10 ** 60 + int(text[begin:begin + 60])
    return number


def read_numbers(text, sign):
    """Read whole numbers with a sign between."""
    return tuple([read_number(word) for word in text.split(sign)])


def show_row(row):
    """Write a row."""
    check_row(row)
    return " ".join([str(person) for person in row])


def read_row(text):
    """Read a row."""
    check_text(text)
    row = read_numbers(text, " ")
    if not is_row(row):
        raise NoText()
    return row


def show_book(book, many):
    """Write a book of so many people."""
    check_book(book, many)
    gaps = ",".join([str(gap) for gap in book])
    return f"{many}:{gaps}"


def read_book(text):
    """Read a book, with the number of people it is of behind it."""
    check_text(text)
    head, colon, gaps = text.partition(":")
    many = read_number(head)
    if colon == "" or not is_many(many):
        raise NoText()
    book = ()
    if gaps != "":
        book = read_numbers(gaps, ",")
    if not is_book(book, many):
        raise NoText()
    return (book, many)


def show_going(going):
    """Write a going."""
    if not isinstance(going, tuple) or not all(isinstance(change, bool) for change in going):
        raise NoGoing()
    return "".join(["x" if change else "." for change in going])


def read_going(text):
    """Read a going."""
    check_text(text)
    if not all(sign == "x" or sign == "." for sign in text):
        raise NoText()
    return tuple([sign == "x" for sign in text])


def show_term(part, power):
    """Write a term with its sign ahead."""
    sign = "-" if part < 0 else "+"
    size = "" if abs(part) == 1 and power > 0 else show_number(abs(part))
    if power == 0:
        return sign + size
    if power == 1:
        return f"{sign}{size}q"
    return f"{sign}{size}q^{power}"


def show_weight(weight):
    """Write a weight."""
    check_weight(weight)
    powers = [power for power in reversed(range(len(weight))) if weight[power] != 0]
    text = "".join([show_term(weight[power], power) for power in powers])
    if text == "":
        return "0"
    return text.removeprefix("+")


def read_power(text):
    """Read what stands behind the q of a term."""
    if text == "":
        return 1
    if not text.startswith("^"):
        raise NoText()
    power = read_number(text[1:])
    if not 2 <= power <= HIGHEST_POWER:
        raise NoText()
    return power


def read_term(text):
    """Read a term, with a minus ahead or no sign: a tuple of its part and its power."""
    size, letter, power = text.removeprefix("-").partition("q")
    part = 1 if size == "" and letter == "q" else read_number(size)
    # Nought is written as no term, and 1 not ahead of q.
    if part == 0 or (size == "1" and letter == "q"):
        raise NoText()
    if text.startswith("-"):
        part = -part
    return (part, read_power(power) if letter == "q" else 0)


def read_terms(text):
    """Read the terms of a weight other than nought."""
    if text.startswith("+"):
        raise NoText()
    # A minus parts two terms, too, but stays with the one behind it.
    words = text.replace("-", "+-").removeprefix("+").split("+")
    return [read_term(word) for word in words]


def read_weight(text):
    """Read a weight."""
    check_text(text)
    if text == "0":
        return []
    terms = read_terms(text)
    powers = [power for part, power in terms]
    if powers[::-1] != sorted(set(powers)):
        raise NoText()
    weight = [0] * (powers[0] + 1)
    for part, power in terms:
        weight[power] = part
    return weight


def show_line(row, weight):
    """Write a row of a table with its weight."""
    return f"{show_row(row)}={show_weight(weight)}"


def show_table(table):
    """Write a table."""
    check_table(table)
    return ";".join([show_line(row, weight) for row, weight in table])


def read_line(text):
    """Read a row of a table with its weight."""
    row, _, weight = text.partition("=")
    return (read_row(row), read_weight(weight))


def read_table(text):
    """Read a table."""
    check_text(text)
    table = [read_line(line) for line in text.split(";")]
    if not is_table(table):
        raise NoText()
    return table

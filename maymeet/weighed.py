"""Weighed goings: tables of rows and their weights, polynomials in q written from q to the 0 on."""

from itertools import zip_longest

from maymeet.errors import NoNumber, NoTable
from maymeet.exchanges import shortest
from maymeet.lets import lesser_ahead
from maymeet.rows import check_book, check_few, check_gap, is_row, is_whole, row_of, swapped


def is_weight(thing):
    """Tell of anything whether it is a weight."""
    if not isinstance(thing, list) or not all(is_whole(part) for part in thing):
        return False
    return not thing or thing[-1] != 0


def is_line(thing):
    """Tell of anything whether it is a tuple of a row and a weight other than nought."""
    if not isinstance(thing, tuple) or len(thing) != 2:
        return False
    row, weight = thing
    return is_row(row) and is_weight(weight) and len(weight) > 0


def is_table(thing):
    """Tell of anything whether it is a table."""
    if not isinstance(thing, list) or not thing or not all(is_line(line) for line in thing):
        return False
    rows = [row for row, weight in thing]
    return rows == sorted(set(rows)) and all(len(row) == len(rows[0]) for row in rows)


def check_weight(weight):
    """Refuse what is no weight."""
    if not is_weight(weight):
        raise NoTable()


def check_table(table):
    """Refuse what is no table."""
    if not is_table(table):
        raise NoTable()


def check_worth(number):
    """Refuse what is no whole number for q to be."""
    if not is_whole(number):
        raise NoNumber()


def trimmed(parts):
    """Tell the weight of the coefficients, without the noughts at their end."""
    long = len(parts)
    while long > 0 and parts[long - 1] == 0:
        long = long - 1
    return parts[:long]


def come_down(lesser, greater):
    """Tell the weight, behind a meeting, of the row with the lesser ahead, from the two rows' weights ahead of it.

    It is q - 1 times that of the row itself, whose people stay, and q times that of the other, whose people change.
    """
    both = [one + two for one, two in zip_longest(lesser, greater, fillvalue=0)]
    return trimmed([higher - same for higher, same in zip_longest([0] + both, lesser, fillvalue=0)])


def met_on(weights, gap):
    """Tell, row by row, the weights behind one meeting more, from those ahead of it; some may be nought."""
    after = {}
    for row in weights:
        lesser = row if lesser_ahead(row, gap) else swapped(row, gap)
        if lesser not in after:
            greater = swapped(lesser, gap)
            ahead = weights.get(lesser, [])
            after[lesser] = come_down(ahead, weights.get(greater, []))
            after[greater] = list(ahead)
    return after


def table_of(weights):
    """Tell the table of the weights that are not nought."""
    return [(row, weights[row]) for row in sorted(weights) if weights[row]]


def weigh(book, many):
    """Tell the table of the book."""
    check_book(book, many)
    check_few(many)
    weights = {row_of(many): [1]}
    for gap in book:
        weights = met_on(weights, gap)
    return table_of(weights)


def met(table, gap):
    """Tell the table behind one meeting more."""
    check_table(table)
    many = len(table[0][0])
    check_gap(gap, many)
    check_few(many)
    return table_of(met_on({row: weight for row, weight in table}, gap))


def of_row(row):
    """Tell the table of the shortest books of the row."""
    # Steps "far" and "three" lead each shortest book to each other one, and alter no table: any will do.
    return weigh(shortest(row), len(row))


def worth_at(weight, number):
    """Tell the weight's worth where q is the number, of what is known to be such."""
    worth = 0
    for part in reversed(weight):
        worth = worth * number + part
    return worth


def at(weight, number):
    """Tell the weight's worth where q is the number."""
    check_weight(weight)
    check_worth(number)
    return worth_at(weight, number)


def table_at(table, number):
    """Tell the rows with their worths, other than 0, where q is the number."""
    check_table(table)
    check_worth(number)
    worths = [(row, worth_at(weight, number)) for row, weight in table]
    return [(row, worth) for row, worth in worths if worth != 0]

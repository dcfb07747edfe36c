"""The rows between two rows, chains of them, and the least and greatest ones above and below both."""

from itertools import combinations, permutations

from maymeet.rows import below, check_few, check_row, check_row_of_few, check_rows, turned


def check_both(row, other):
    """Refuse what is no row, rows of other many people, or of too many."""
    check_rows(row, other)
    check_few(len(row))


def between(low, high):
    """Tell the rows that low lies below and that lie below high, by turned pairs and then as tuples."""
    check_both(low, high)
    rows = [row for row in permutations(range(len(low))) if below(low, row) and below(row, high)]
    return sorted(rows, key=lambda row: (turned(row), row))


def with_changed(row, place, other):
    """Tell the row with the people at two places exchanged."""
    people = list(row)
    people[place] = row[other]
    people[other] = row[place]
    return tuple(people)


def is_next(row, place, other):
    """Tell whether the person at other is the greater, and nobody between the two has a number between theirs."""
    people = row[place + 1:other]
    return row[place] < row[other] and not any(row[place] < person < row[other] for person in people)


def above(row):
    """Tell the rows with one turned pair more that the row lies below, rising."""
    check_row(row)
    return sorted([
        with_changed(row, place, other)
        for place, other in combinations(range(len(row)), 2) if is_next(row, place, other)
    ])


def chain(low, high):
    """Tell the least list of rows from low to high, each above the one ahead, or None."""
    check_both(low, high)
    if not below(low, high):
        return None
    rows = [low]
    while rows[-1] != high:
        # Above each row below high there is one that still lies below high: the least can be taken at once.
        rows.append(min([row for row in above(rows[-1]) if below(row, high)]))
    return rows


def counted(row):
    """Tell how many of the rows below the row have 0, 1, .. turned pairs."""
    check_row_of_few(row)
    counts = [0] * (turned(row) + 1)
    for other in permutations(range(len(row))):
        if below(other, row):
            counts[turned(other)] += 1
    return counts


def stand_unevenly(people):
    """Tell whether four people stand as 2 3 0 1 or as 3 1 2 0 do among one another."""
    one, two, three, four = people
    return three < four < one < two or four < two < three < one


def evenly(row):
    """Tell None where counted is the same read from behind, else the least four places at which it fails."""
    check_row_of_few(row)
    # By the document there are four such places just where the counts are not the same from behind.
    for places in combinations(range(len(row)), 4):
        if stand_unevenly([row[place] for place in places]):
            return places
    return None


def least_above(row, other):
    """Tell the rows above both, rising, below which no other such row lies."""
    check_both(row, other)
    rows = [here for here in permutations(range(len(row))) if below(row, here) and below(other, here)]
    # What lies above a row above both does so, too: so a row of these that is not least has, with one
    # turned pair fewer, another one of them below it.
    higher = {up: True for here in rows for up in above(here)}
    return [here for here in rows if here not in higher]


def upside_down(row):
    """Tell the row with the least person made the greatest, and so on: what lay below now lies above."""
    return tuple(len(row) - 1 - person for person in row)


def greatest_below(row, other):
    """Tell the rows below both, rising, above which no other such row lies."""
    check_both(row, other)
    return sorted([upside_down(here) for here in least_above(upside_down(row), upside_down(other))])

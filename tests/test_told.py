"""Point [2] and the interface: what is told is the asker's own, and arguments may go by their names."""

import importlib
import inspect
import unittest

from maymeet import between as between_file
from maymeet import exchanges as exchanges_file
from maymeet import goings as goings_file
from maymeet import lets as lets_file
from maymeet import products as products_file
from maymeet import rows as rows_file
from maymeet import weighed as weighed_file
from maymeet.errors import NoMany

INTERFACE = {
    "rows": {
        "is_row": ["thing"], "is_book": ["thing", "many"], "below": ["row", "other"], "row_of": ["many"],
        "changed": ["row", "gap"], "turned": ["row"], "gone": ["book", "many", "going"], "corners": ["row"],
        "unlike_corner": ["row", "other"],
    },
    "lets": {
        "farthest": ["book", "many"], "lets": ["book", "row"], "same": ["book", "other", "many"],
        "fewest": ["book", "row"], "why_not": ["book", "row"], "needless": ["book", "many"], "kept": ["book", "many"],
    },
    "goings": {
        "goings": ["book", "row"], "by_changes": ["book", "row"], "ends": ["book", "many"],
        "nth": ["book", "row", "number"], "musts": ["book", "row"],
    },
    "exchanges": {
        "steps": ["book"], "led_down": ["book", "many"], "led_over": ["book", "other", "many"],
        "stepped": ["book", "step"], "shortest": ["row"], "nth_shortest": ["row", "number"], "many_shortest": ["row"],
        "is_shortest": ["book", "many"],
    },
    "products": {
        "product": ["row", "other"], "needed_ahead": ["row", "other"], "needed_behind": ["row", "first"], "back": ["row"],
    },
    "weighed": {
        "weigh": ["book", "many"], "met": ["table", "gap"], "of_row": ["row"], "at": ["weight", "number"],
        "table_at": ["table", "number"],
    },
    "between": {
        "between": ["low", "high"], "above": ["row"], "counted": ["row"], "least_above": ["row", "other"],
        "greatest_below": ["row", "other"], "chain": ["low", "high"], "evenly": ["row"],
    },
}

BOOK = (0, 1, 0, 2, 1)
ROW = (1, 0, 3, 2)
TABLE = [((0, 1), [-1, 1]), ((1, 0), [1])]

# Each asking by names in another order than they are written, with what it tells.
NAMED = [
    (rows_file.is_row, {"thing": ROW}, True),
    (rows_file.is_book, {"many": 4, "thing": BOOK}, True),
    (rows_file.row_of, {"many": 2}, (0, 1)),
    (rows_file.turned, {"row": ROW}, 2),
    (rows_file.changed, {"gap": 0, "row": ROW}, (0, 1, 3, 2)),
    (rows_file.gone, {"going": (True,), "many": 2, "book": (0,)}, [(0, 1), (1, 0)]),
    (rows_file.corners, {"row": (0, 1)}, [[0, 0, 0], [1, 0, 0], [2, 1, 0]]),
    (rows_file.below, {"other": (0, 1), "row": (1, 0)}, False),
    (rows_file.unlike_corner, {"other": (0, 1), "row": (1, 0)}, (1, 1)),
    (lets_file.farthest, {"many": 4, "book": BOOK}, (2, 3, 1, 0)),
    (lets_file.lets, {"row": ROW, "book": BOOK}, True),
    (lets_file.fewest, {"row": ROW, "book": BOOK}, [0, 3]),
    (lets_file.why_not, {"row": (3, 2, 1, 0), "book": BOOK}, (1, 3)),
    (lets_file.same, {"many": 2, "other": (), "book": (0,)}, False),
    (lets_file.needless, {"many": 3, "book": (0, 1, 0, 1)}, [0, 3]),
    (lets_file.kept, {"many": 3, "book": (0, 1, 0, 1)}, (0, 1, 0)),
    (goings_file.goings, {"row": ROW, "book": BOOK}, 2),
    (goings_file.by_changes, {"row": ROW, "book": BOOK}, [(2, 2)]),
    (goings_file.nth, {"number": 1, "row": ROW, "book": BOOK}, (True, False, False, True, False)),
    (goings_file.musts, {"row": ROW, "book": BOOK}, ([3], [1, 4])),
    (goings_file.ends, {"many": 2, "book": (0,)}, [((0, 1), 1), ((1, 0), 1)]),
    (exchanges_file.steps, {"book": BOOK}, [(0, "three"), (2, "far")]),
    (exchanges_file.stepped, {"step": (2, "far"), "book": BOOK}, (0, 1, 2, 0, 1)),
    (exchanges_file.shortest, {"row": ROW}, (0, 2)),
    (exchanges_file.many_shortest, {"row": ROW}, 2),
    (exchanges_file.nth_shortest, {"number": 1, "row": ROW}, (2, 0)),
    (exchanges_file.is_shortest, {"many": 4, "book": BOOK}, True),
    (exchanges_file.led_down, {"many": 4, "book": (2, 0, 0)}, [(0, "far"), (1, "far"), (0, "once")]),
    (exchanges_file.led_over, {"many": 3, "other": (1, 0, 1), "book": (0, 1, 0)}, [(0, "three")]),
    (products_file.product, {"other": ROW, "row": (0, 2, 1, 3)}, (2, 0, 3, 1)),
    (products_file.needed_ahead, {"other": (0, 2, 1), "row": (1, 2, 0)}, (1, 0, 2)),
    (products_file.needed_behind, {"first": (1, 0, 2), "row": (1, 2, 0)}, (0, 2, 1)),
    (products_file.back, {"row": (1, 2, 0)}, (2, 0, 1)),
    (weighed_file.weigh, {"many": 2, "book": (0,)}, TABLE),
    (weighed_file.met, {"gap": 0, "table": TABLE}, [((0, 1), [1, -1, 1]), ((1, 0), [-1, 1])]),
    (weighed_file.of_row, {"row": (1, 0)}, TABLE),
    (weighed_file.at, {"number": -2, "weight": [1, -2, 1]}, 9),
    (weighed_file.table_at, {"number": 5, "table": TABLE}, [((0, 1), 4), ((1, 0), 1)]),
    (between_file.between, {"high": (1, 2, 0), "low": (0, 2, 1)}, [(0, 2, 1), (1, 2, 0)]),
    (between_file.above, {"row": (0, 1, 2)}, [(0, 2, 1), (1, 0, 2)]),
    (between_file.chain, {"high": (2, 1, 0), "low": (1, 0, 2)}, [(1, 0, 2), (1, 2, 0), (2, 1, 0)]),
    (between_file.counted, {"row": (1, 2, 0)}, [1, 2, 1]),
    (between_file.evenly, {"row": (0, 3, 4, 1, 2)}, (1, 2, 3, 4)),
    (between_file.least_above, {"other": (1, 0, 2), "row": (0, 2, 1)}, [(1, 2, 0), (2, 0, 1)]),
    (between_file.greatest_below, {"other": (2, 0, 1), "row": (1, 2, 0)}, [(0, 2, 1), (1, 0, 2)]),
]


def lists_in(thing):
    """All lists and dicts in a told thing, itself among them."""
    if isinstance(thing, dict):
        return [thing, *(found for inner in thing.values() for found in lists_in(inner))]
    if isinstance(thing, list):
        return [thing, *(found for inner in thing for found in lists_in(inner))]
    if isinstance(thing, tuple):
        return [found for inner in thing for found in lists_in(inner)]
    return []


class Interface(unittest.TestCase):
    def test_each_function_stands_in_its_file_with_its_names(self):
        for name, functions in INTERFACE.items():
            module = importlib.import_module(f"maymeet.{name}")
            for function, names in functions.items():
                with self.subTest(function=function):
                    told = getattr(module, function)
                    self.assertEqual(told.__module__, f"maymeet.{name}")
                    signature = inspect.signature(told)
                    self.assertEqual(list(signature.parameters), names)
                    kinds = {parameter.kind for parameter in signature.parameters.values()}
                    self.assertEqual(kinds, {inspect.Parameter.POSITIONAL_OR_KEYWORD})

    def test_each_function_is_asked_by_names_here(self):
        asked = sorted(call.__name__ for call, _, _ in NAMED)
        self.assertEqual(asked, sorted(function for functions in INTERFACE.values() for function in functions))

    def test_arguments_by_name(self):
        for call, named, told in NAMED:
            with self.subTest(call=call.__name__):
                self.assertEqual(call(**named), told)
                self.assertIs(type(call(**named)), type(told))

    def test_arguments_by_place(self):
        for call, named, told in NAMED:
            with self.subTest(call=call.__name__):
                placed = [named[name] for name in inspect.signature(call).parameters]
                self.assertEqual(call(*placed), told)


class OwnLists(unittest.TestCase):
    def test_told_lists_that_are_changed_change_nothing(self):
        for call, named, told in NAMED:
            with self.subTest(call=call.__name__):
                for found in lists_in(call(**named)):
                    found.clear()
                    found.append("changed")
                self.assertEqual(call(**named), told)

    def test_no_two_told_at_once_are_one(self):
        empty = [goings_file.musts((0, 0), (1, 0)), goings_file.musts((), (0,)), rows_file.corners((0,))]
        for thing in [*(call(**named) for call, named, _ in NAMED), *empty]:
            found = lists_in(thing)
            self.assertEqual(len({id(one) for one in found}), len(found))

    def test_no_two_told_one_behind_the_other_are_one(self):
        for call, named, _ in NAMED:
            found = lists_in([call(**named), call(**named)])
            self.assertEqual(len({id(one) for one in found}), len(found))

    def test_a_changed_corner_line_changes_no_other(self):
        told = rows_file.corners((1, 0))
        told[0][0] = 99
        self.assertEqual(told[1:], [[1, 1, 0], [2, 1, 0]])
        self.assertEqual(rows_file.corners((1, 0)), [[0, 0, 0], [1, 1, 0], [2, 1, 0]])

    def test_what_is_handed_in_stays(self):
        for thing in ([2, 0, 1], [[1], [0]], {0: [1]}, {2, 1}):
            before = repr(thing)
            rows_file.is_row(thing)
            rows_file.is_book(thing, 3)
            with self.assertRaises(NoMany):
                rows_file.is_book((), thing)
            rows_file.is_row((thing, 0))
            self.assertEqual(repr(thing), before)
        for call, named, _ in NAMED:
            before = repr(named)
            call(**named)
            self.assertEqual(repr(named), before)

    def test_a_table_that_is_handed_in_is_told_anew(self):
        table = [((0, 1, 2), [2]), ((0, 2, 1), [1])]
        before = repr(table)
        for gap in (0, 1):
            told = weighed_file.met(table, gap)
            kept = repr(told)
            mine = {id(found) for found in lists_in(table)}
            self.assertEqual([found for found in lists_in(told) if id(found) in mine], [])
            for found in lists_in(table):
                found.append(7)
            self.assertEqual(repr(told), kept)
            for found in lists_in(told):
                found.clear()
            table = [((0, 1, 2), [2]), ((0, 2, 1), [1])]
        self.assertEqual(repr(table), before)

    def test_what_is_told_may_be_handed_in(self):
        row = rows_file.gone(BOOK, 4, goings_file.nth(BOOK, ROW, 1))[-1]
        self.assertEqual(row, ROW)
        book = lets_file.kept(BOOK, 4)
        self.assertIs(rows_file.is_book(book, 4), True)
        self.assertEqual(lets_file.farthest(book, 4), lets_file.farthest(BOOK, 4))
        self.assertIs(rows_file.is_row(lets_file.farthest(BOOK, 4)), True)
        for step in exchanges_file.steps(BOOK):
            self.assertIs(lets_file.same(exchanges_file.stepped(BOOK, step), BOOK, 4), True)
        table = weighed_file.met(weighed_file.weigh(BOOK, 4), 2)
        self.assertEqual(table, weighed_file.weigh(BOOK + (2,), 4))
        self.assertEqual([weighed_file.at(weight, 0) for _, weight in table],
                         [worth for _, worth in weighed_file.table_at(table, 0)])


if __name__ == "__main__":
    unittest.main()

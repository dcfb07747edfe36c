"""Point [2] and the interface: what is told is the asker's own, and arguments may go by their names."""

import importlib
import inspect
import unittest

from maymeet import between as between_file
from maymeet import desk as desk_file
from maymeet import exchanges as exchanges_file
from maymeet import goings as goings_file
from maymeet import kinds as kinds_file
from maymeet import leftout as leftout_file
from maymeet import lets as lets_file
from maymeet import products as products_file
from maymeet import rows as rows_file
from maymeet import texts as texts_file
from maymeet import weighed as weighed_file
from maymeet.errors import NoMany

INTERFACE = {
    "rows": {
        "is_row": ["thing"], "is_book": ["thing", "many"], "below": ["row", "other"], "row_of": ["many"],
        "changed": ["row", "gap"], "turned": ["row"], "gone": ["book", "many", "going"], "corners": ["row"],
        "unlike_corner": ["row", "other"],
    },
    "lets": {
        "farthest": ["book", "many"], "lets": ["book", "row"], "same": ["book", "other", "many"],
        "fewest": ["book", "row"], "why_not": ["book", "row"], "needless": ["book", "many"], "kept": ["book", "many"],
    },
    "goings": {
        "goings": ["book", "row"], "by_changes": ["book", "row"], "ends": ["book", "many"],
        "nth": ["book", "row", "number"], "musts": ["book", "row"],
    },
    "exchanges": {
        "steps": ["book"], "led_down": ["book", "many"], "led_over": ["book", "other", "many"],
        "stepped": ["book", "step"], "shortest": ["row"], "nth_shortest": ["row", "number"], "many_shortest": ["row"],
        "is_shortest": ["book", "many"],
    },
    "products": {
        "product": ["row", "other"], "needed_ahead": ["row", "other"], "needed_behind": ["row", "first"], "back": ["row"],
    },
    "weighed": {
        "weigh": ["book", "many"], "met": ["table", "gap"], "of_row": ["row"], "at": ["weight", "number"],
        "table_at": ["table", "number"],
    },
    "between": {
        "between": ["low", "high"], "above": ["row"], "counted": ["row"], "least_above": ["row", "other"],
        "greatest_below": ["row", "other"], "chain": ["low", "high"], "evenly": ["row"],
    },
    "kinds": {
        "kinds_let": ["book", "first", "kinds"], "kinds_farthest": ["book", "first"], "far_rows": ["book", "many"],
        "far_fails": ["book", "many"],
    },
    "leftout": {
        "greatest_left": ["book", "row", "most"], "led_left": ["book", "row", "leaving", "other", "most"],
        "in_place": ["book", "row", "leaving", "meeting"], "is_left": ["book", "row", "leaving"],
    },
    "texts": {
        "show_row": ["row"], "show_book": ["book", "many"], "show_going": ["going"], "show_weight": ["weight"],
        "show_table": ["table"], "read_row": ["text"], "read_book": ["text"], "read_going": ["text"],
        "read_weight": ["text"], "read_table": ["text"],
    },
}

DESK = {
    "put": ["place", "gap"], "take": ["place"], "turn": ["place", "gap"], "book": [], "farthest": [], "lets": ["row"],
    "news": [], "looked": [],
}

BOOK = (0, 1, 0, 2, 1)
ROW = (1, 0, 3, 2)
TABLE = [((0, 1), [-1, 1]), ((1, 0), [1])]

# Each asking by names in another order than they are written, with what it tells.
NAMED = [
    (rows_file.is_row, {"thing": ROW}, True),
    (rows_file.is_book, {"many": 4, "thing": BOOK}, True),
    (rows_file.row_of, {"many": 2}, (0, 1)),
    (rows_file.turned, {"row": ROW}, 2),
    (rows_file.changed, {"gap": 0, "row": ROW}, (0, 1, 3, 2)),
    (rows_file.gone, {"going": (True,), "many": 2, "book": (0,)}, [(0, 1), (1, 0)]),
    (rows_file.corners, {"row": (0, 1)}, [[0, 0, 0], [1, 0, 0], [2, 1, 0]]),
    (rows_file.below, {"other": (0, 1), "row": (1, 0)}, False),
    (rows_file.unlike_corner, {"other": (0, 1), "row": (1, 0)}, (1, 1)),
    (lets_file.farthest, {"many": 4, "book": BOOK}, (2, 3, 1, 0)),
    (lets_file.lets, {"row": ROW, "book": BOOK}, True),
    (lets_file.fewest, {"row": ROW, "book": BOOK}, [0, 3]),
    (lets_file.why_not, {"row": (3, 2, 1, 0), "book": BOOK}, (1, 3)),
    (lets_file.same, {"many": 2, "other": (), "book": (0,)}, False),
    (lets_file.needless, {"many": 3, "book": (0, 1, 0, 1)}, [0, 3]),
    (lets_file.kept, {"many": 3, "book": (0, 1, 0, 1)}, (0, 1, 0)),
    (goings_file.goings, {"row": ROW, "book": BOOK}, 2),
    (goings_file.by_changes, {"row": ROW, "book": BOOK}, [(2, 2)]),
    (goings_file.nth, {"number": 1, "row": ROW, "book": BOOK}, (True, False, False, True, False)),
    (goings_file.musts, {"row": ROW, "book": BOOK}, ([3], [1, 4])),
    (goings_file.ends, {"many": 2, "book": (0,)}, [((0, 1), 1), ((1, 0), 1)]),
    (exchanges_file.steps, {"book": BOOK}, [(0, "three"), (2, "far")]),
    (exchanges_file.stepped, {"step": (2, "far"), "book": BOOK}, (0, 1, 2, 0, 1)),
    (exchanges_file.shortest, {"row": ROW}, (0, 2)),
    (exchanges_file.many_shortest, {"row": ROW}, 2),
    (exchanges_file.nth_shortest, {"number": 1, "row": ROW}, (2, 0)),
    (exchanges_file.is_shortest, {"many": 4, "book": BOOK}, True),
    (exchanges_file.led_down, {"many": 4, "book": (2, 0, 0)}, [(0, "far"), (1, "far"), (0, "once")]),
    (exchanges_file.led_over, {"many": 3, "other": (1, 0, 1), "book": (0, 1, 0)}, [(0, "three")]),
    (products_file.product, {"other": ROW, "row": (0, 2, 1, 3)}, (2, 0, 3, 1)),
    (products_file.needed_ahead, {"other": (0, 2, 1), "row": (1, 2, 0)}, (1, 0, 2)),
    (products_file.needed_behind, {"first": (1, 0, 2), "row": (1, 2, 0)}, (0, 2, 1)),
    (products_file.back, {"row": (1, 2, 0)}, (2, 0, 1)),
    (weighed_file.weigh, {"many": 2, "book": (0,)}, TABLE),
    (weighed_file.met, {"gap": 0, "table": TABLE}, [((0, 1), [1, -1, 1]), ((1, 0), [-1, 1])]),
    (weighed_file.of_row, {"row": (1, 0)}, TABLE),
    (weighed_file.at, {"number": -2, "weight": [1, -2, 1]}, 9),
    (weighed_file.table_at, {"number": 5, "table": TABLE}, [((0, 1), 4), ((1, 0), 1)]),
    (between_file.between, {"high": (1, 2, 0), "low": (0, 2, 1)}, [(0, 2, 1), (1, 2, 0)]),
    (between_file.above, {"row": (0, 1, 2)}, [(0, 2, 1), (1, 0, 2)]),
    (between_file.chain, {"high": (2, 1, 0), "low": (1, 0, 2)}, [(1, 0, 2), (1, 2, 0), (2, 1, 0)]),
    (between_file.counted, {"row": (1, 2, 0)}, [1, 2, 1]),
    (between_file.evenly, {"row": (0, 3, 4, 1, 2)}, (1, 2, 3, 4)),
    (between_file.least_above, {"other": (1, 0, 2), "row": (0, 2, 1)}, [(1, 2, 0), (2, 0, 1)]),
    (between_file.greatest_below, {"other": (2, 0, 1), "row": (1, 2, 0)}, [(0, 2, 1), (1, 0, 2)]),
    (kinds_file.kinds_let, {"kinds": (1, 0, 0), "first": (0, 0, 1), "book": (1, 0)}, True),
    (kinds_file.kinds_farthest, {"first": (0, 1, 1, 4), "book": BOOK}, (1, 4, 1, 0)),
    (kinds_file.far_rows, {"many": 3, "book": ((0, 2),)}, [(0, 1, 2), (2, 1, 0)]),
    (kinds_file.far_fails, {"many": 3, "book": ((0, 2),)}, ((0, 2, 1), (2, 1, 0))),
    (leftout_file.greatest_left, {"most": 2, "row": ROW, "book": BOOK}, [(0, 1, 4), (1, 2, 4)]),
    (leftout_file.led_left, {"most": 2, "other": (1, 2, 4), "leaving": (0, 1, 4), "row": ROW, "book": BOOK}, [(0, 2)]),
    (leftout_file.in_place, {"meeting": 0, "leaving": (0, 1, 4), "row": ROW, "book": BOOK}, 2),
    (leftout_file.is_left, {"leaving": (0, 4), "row": ROW, "book": BOOK}, True),
    (texts_file.show_row, {"row": ROW}, "1 0 3 2"),
    (texts_file.show_book, {"many": 4, "book": BOOK}, "4:0,1,0,2,1"),
    (texts_file.show_going, {"going": (True, False)}, "x."),
    (texts_file.show_weight, {"weight": [1, -2, 1]}, "q^2-2q+1"),
    (texts_file.show_table, {"table": TABLE}, "0 1=q-1;1 0=1"),
    (texts_file.read_row, {"text": "1 0 3 2"}, ROW),
    (texts_file.read_book, {"text": "4:0,1,0,2,1"}, (BOOK, 4)),
    (texts_file.read_going, {"text": "x."}, (True, False)),
    (texts_file.read_weight, {"text": "q^2-2q+1"}, [1, -2, 1]),
    (texts_file.read_table, {"text": "0 1=q-1;1 0=1"}, TABLE),
]


def lists_in(thing):
    """All lists and dicts in a told thing, itself among them."""
    if isinstance(thing, dict):
        return [thing, *(found for inner in thing.values() for found in lists_in(inner))]
    if isinstance(thing, list):
        return [thing, *(found for inner in thing for found in lists_in(inner))]
    if isinstance(thing, tuple):
        return [found for inner in thing for found in lists_in(inner)]
    return []


class Interface(unittest.TestCase):
    def test_each_function_stands_in_its_file_with_its_names(self):
        for name, functions in INTERFACE.items():
            module = importlib.import_module(f"maymeet.{name}")
            for function, names in functions.items():
                with self.subTest(function=function):
                    told = getattr(module, function)
                    self.assertEqual(told.__module__, f"maymeet.{name}")
                    signature = inspect.signature(told)
                    self.assertEqual(list(signature.parameters), names)
                    for parameter in signature.parameters.values():
                        by_name_alone = parameter.name == "most"
                        kind = inspect.Parameter.KEYWORD_ONLY if by_name_alone else inspect.Parameter.POSITIONAL_OR_KEYWORD
                        self.assertEqual(parameter.kind, kind)
                        self.assertEqual(parameter.default, 1000 if by_name_alone else inspect.Parameter.empty)

    def test_the_desk_has_its_methods_itself(self):
        self.assertEqual(desk_file.Desk.__module__, "maymeet.desk")
        self.assertEqual(list(inspect.signature(desk_file.Desk).parameters), ["many"])
        for method, names in DESK.items():
            told = vars(desk_file.Desk)[method]
            self.assertEqual(list(inspect.signature(told).parameters), ["self", *names])
        self.assertEqual(sorted(name for name in vars(desk_file.Desk) if not name.startswith("_")), sorted(DESK))

    def test_each_function_is_asked_by_names_here(self):
        asked = sorted(call.__name__ for call, _, _ in NAMED)
        self.assertEqual(asked, sorted(function for functions in INTERFACE.values() for function in functions))

    def test_arguments_by_name(self):
        for call, named, told in NAMED:
            with self.subTest(call=call.__name__):
                self.assertEqual(call(**named), told)
                self.assertIs(type(call(**named)), type(told))

    def test_arguments_by_place(self):
        for call, named, told in NAMED:
            with self.subTest(call=call.__name__):
                placed = [named[name] for name in inspect.signature(call).parameters if name != "most"]
                self.assertEqual(call(*placed), told)


class OwnLists(unittest.TestCase):
    def test_told_lists_that_are_changed_change_nothing(self):
        for call, named, told in NAMED:
            with self.subTest(call=call.__name__):
                for found in lists_in(call(**named)):
                    found.clear()
                    found.append("changed")
                self.assertEqual(call(**named), told)

    def test_no_two_told_at_once_are_one(self):
        empty = [goings_file.musts((0, 0), (1, 0)), goings_file.musts((), (0,)), rows_file.corners((0,))]
        for thing in [*(call(**named) for call, named, _ in NAMED), *empty]:
            found = lists_in(thing)
            self.assertEqual(len({id(one) for one in found}), len(found))

    def test_no_two_told_one_behind_the_other_are_one(self):
        for call, named, _ in NAMED:
            found = lists_in([call(**named), call(**named)])
            self.assertEqual(len({id(one) for one in found}), len(found))

    def test_a_changed_corner_line_changes_no_other(self):
        told = rows_file.corners((1, 0))
        told[0][0] = 99
        self.assertEqual(told[1:], [[1, 1, 0], [2, 1, 0]])
        self.assertEqual(rows_file.corners((1, 0)), [[0, 0, 0], [1, 1, 0], [2, 1, 0]])

    def test_what_is_handed_in_stays(self):
        for thing in ([2, 0, 1], [[1], [0]], {0: [1]}, {2, 1}):
            before = repr(thing)
            rows_file.is_row(thing)
            rows_file.is_book(thing, 3)
            with self.assertRaises(NoMany):
                rows_file.is_book((), thing)
            rows_file.is_row((thing, 0))
            self.assertEqual(repr(thing), before)
        for call, named, _ in NAMED:
            before = repr(named)
            call(**named)
            self.assertEqual(repr(named), before)

    def test_a_table_that_is_handed_in_is_told_anew(self):
        table = [((0, 1, 2), [2]), ((0, 2, 1), [1])]
        before = repr(table)
        for gap in (0, 1):
            told = weighed_file.met(table, gap)
            kept = repr(told)
            mine = {id(found) for found in lists_in(table)}
            self.assertEqual([found for found in lists_in(told) if id(found) in mine], [])
            for found in lists_in(table):
                found.append(7)
            self.assertEqual(repr(told), kept)
            for found in lists_in(told):
                found.clear()
            table = [((0, 1, 2), [2]), ((0, 2, 1), [1])]
        self.assertEqual(repr(table), before)

    def test_what_is_told_may_be_handed_in(self):
        row = rows_file.gone(BOOK, 4, goings_file.nth(BOOK, ROW, 1))[-1]
        self.assertEqual(row, ROW)
        book = lets_file.kept(BOOK, 4)
        self.assertIs(rows_file.is_book(book, 4), True)
        self.assertEqual(lets_file.farthest(book, 4), lets_file.farthest(BOOK, 4))
        self.assertIs(rows_file.is_row(lets_file.farthest(BOOK, 4)), True)
        for step in exchanges_file.steps(BOOK):
            self.assertIs(lets_file.same(exchanges_file.stepped(BOOK, step), BOOK, 4), True)
        table = weighed_file.met(weighed_file.weigh(BOOK, 4), 2)
        self.assertEqual(table, weighed_file.weigh(BOOK + (2,), 4))
        self.assertEqual([weighed_file.at(weight, 0) for _, weight in table],
                         [worth for _, worth in weighed_file.table_at(table, 0)])

    def test_what_is_told_may_be_handed_in_further_on(self):
        book, many = texts_file.read_book(texts_file.show_book(BOOK, 4))
        far = kinds_file.kinds_farthest(book, (0, 1, 1, 2))
        self.assertIs(kinds_file.kinds_let(book, (0, 1, 1, 2), far), True)
        for leaving in leftout_file.greatest_left(book, ROW):
            for meeting in leaving:
                other = leftout_file.in_place(book, ROW, leaving, meeting)
                if other is not None:
                    there = tuple(sorted({*leaving, other} - {meeting}))
                    self.assertEqual(leftout_file.led_left(book, ROW, leaving, there), [(meeting, other)])
        row, other = kinds_file.far_fails(((0, 2),), 3)
        self.assertIs(rows_file.below(row, other), True)
        desk = desk_file.Desk(many)
        for place, gap in enumerate(book):
            desk.put(place, gap)
        self.assertEqual(lets_file.farthest(desk.book(), many), desk.farthest())
        desk.turn(leftout_file.in_place(book, ROW, (0, 1, 4), 0), 1)
        self.assertEqual(texts_file.read_row(texts_file.show_row(desk.farthest())), lets_file.farthest((0, 1, 1, 2, 1), 4))
        table = texts_file.read_table(texts_file.show_table(weighed_file.weigh(desk.book(), many)))
        self.assertEqual(weighed_file.met(table, 0), weighed_file.weigh((0, 1, 1, 2, 1, 0), 4))
        going = goings_file.nth(BOOK, ROW, 0)
        self.assertEqual(texts_file.read_going(texts_file.show_going(going)), going)


if __name__ == "__main__":
    unittest.main()

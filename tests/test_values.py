"""Points 4, 6 and A2: values of closed data kinds, and their order."""

import copy
import unittest

from bykindalone.errors import InvalidKind, InvalidValue
from bykindalone.kinds import TRUTH
from bykindalone.values import is_value, order
from things import A, B, NUM, UNIT, chain, deep_things, odd_things, odd_words

LONG = 10 ** 399
YES = ("left", ())
NO = ("right", ())
PAIR = ("pair", NUM, NUM)
EITHER = ("either", NUM, NUM)
SIDES = ("either", UNIT, NUM)
ROW = ("list", NUM)
UNITS = ("list", UNIT)
ROWS = ("list", ROW)
MIXED = ("pair", ("list", SIDES), ("either", ROW, ("pair", NUM, UNIT)))

# Of each kind values in ascending order, no two alike.
ASCENDING = (
    (NUM, (-LONG - 1, -LONG, -10 ** 20, -10, -9, -2, -1, 0, 1, 2, 9, 10, 11, 99, 100, 10 ** 20, LONG, LONG + 1)),
    (UNIT, ((),)),
    (TRUTH, (YES, NO)),
    (PAIR, (
        ("pair", -LONG, LONG), ("pair", -3, 9), ("pair", -1, -1), ("pair", -1, 0), ("pair", 0, -5), ("pair", 0, 0),
        ("pair", 0, 7), ("pair", 1, -8), ("pair", 2, 2), ("pair", 9, 10), ("pair", 10, 9), ("pair", LONG, 0),
    )),
    (("pair", UNIT, NUM), (("pair", (), -2), ("pair", (), 0), ("pair", (), 1))),
    (("pair", NUM, UNIT), (("pair", -2, ()), ("pair", 0, ()), ("pair", 1, ()))),
    (EITHER, (
        ("left", -LONG), ("left", -1), ("left", 0), ("left", 5), ("left", LONG),
        ("right", -LONG), ("right", -1), ("right", 0), ("right", 5), ("right", LONG),
    )),
    (SIDES, (("left", ()), ("right", -7), ("right", 0), ("right", 7))),
    (("either", NUM, UNIT), (("left", -7), ("left", 0), ("left", 7), ("right", ()))),
    (UNITS, ((), ((),), ((), ()), ((), (), ()), ((),) * 9)),
    (("list", UNITS), ((), ((),), ((), ()), ((), ((),)), (((),),), (((),), ()), (((),), ((),)), (((), ()),))),
    (ROW, (
        (), (-LONG,), (-2,), (-1,), (-1, -9), (-1, 0), (-1, 0, 0), (0,), (0, -1), (0, -1, 5), (0, 0), (0, 0, 0),
        (0, 1), (1,), (1, 0), (2,), (2, -3), (9,), (9, 9, 9), (10,), (LONG,), (LONG, -LONG), (LONG + 1,),
    )),
    (ROWS, (
        (), ((),), ((), ()), ((), (), (5,)), ((), (0,)), ((-1,),), ((-1,), ()), ((0,),), ((0,), (0,)), ((0, 0),),
        ((0, 0), (-9,)), ((1,),), ((1,), (), ()), ((1, -1),), ((2,), (2,)),
    )),
    (("list", TRUTH), (
        (), (YES,), (YES, YES), (YES, YES, NO), (YES, NO), (NO,), (NO, YES), (NO, NO), (NO, NO, YES),
    )),
    (("list", PAIR), (
        (), (("pair", -1, 4),), (("pair", 0, 0),), (("pair", 0, 0), ("pair", -9, -9)), (("pair", 0, 1),),
        (("pair", 0, 1), ("pair", 0, 0)), (("pair", 1, -1),),
    )),
    (("pair", ROW, ROW), (
        ("pair", (), ()), ("pair", (), (3,)), ("pair", (-1,), ()), ("pair", (0,), (0,)), ("pair", (0,), (0, 0)),
        ("pair", (0, 0), ()), ("pair", (0, 0), (-1,)), ("pair", (0, 1), ()), ("pair", (1,), ()),
    )),
    (("either", ROW, ROW), (
        ("left", ()), ("left", (-1,)), ("left", (0,)), ("left", (0, 0)), ("left", (9,)),
        ("right", ()), ("right", (-1,)), ("right", (0,)), ("right", (0, 0)), ("right", (9,)),
    )),
    (("either", UNIT, UNITS), (("left", ()), ("right", ()), ("right", ((),)))),
    (("either", ROW, NUM), (("left", ()), ("left", (0,)), ("left", (0, -1)), ("right", -4), ("right", 4))),
    (("pair", ("pair", NUM, NUM), NUM), (
        ("pair", ("pair", 0, 0), 0), ("pair", ("pair", 0, 0), 1), ("pair", ("pair", 0, 1), 0),
        ("pair", ("pair", 1, 0), 0), ("pair", ("pair", 1, 0), 5), ("pair", ("pair", 1, 1), -5),
    )),
    (("either", EITHER, EITHER), (
        ("left", ("left", 0)), ("left", ("left", 1)), ("left", ("right", 0)), ("left", ("right", 1)),
        ("right", ("left", 0)), ("right", ("left", 1)), ("right", ("right", 0)), ("right", ("right", 1)),
    )),
    (MIXED, (
        ("pair", (), ("left", ())), ("pair", (), ("left", (4,))), ("pair", (), ("right", ("pair", -3, ()))),
        ("pair", (), ("right", ("pair", 2, ()))), ("pair", (YES,), ("left", ())), ("pair", (YES,), ("left", (0,))),
        ("pair", (YES, YES), ("left", ())), ("pair", (YES, ("right", 1)), ("left", ())),
        ("pair", (("right", 0),), ("left", ())), ("pair", (("right", 0),), ("right", ("pair", 0, ()))),
        ("pair", (("right", 0), YES), ("left", (1, 2))), ("pair", (("right", 3),), ("left", ())),
    )),
)

# Beside each kind what is near to its values, and none.
NO_VALUES = (
    (NUM, (True, False, None, "1", b"1", (), (1,), [1], {}, ("num",), ("number", 1), ("pair", 1, 1), ("left", 1))),
    (UNIT, (0, None, False, "", b"", [], {}, set(), ((),), (0,), ("unit",), [()], range(0), frozenset())),
    (PAIR, (
        (1, 2), ("pair",), ("pair", 1), ("pair", 1, 2, 3), ["pair", 1, 2], ("pair", [1, 2]), ("pair", (1, 2)),
        ("pair", True, 2), ("pair", 1, False), ("pair", (), 2), ("pair", 1, ()), ("left", 1), ("left", 1, 2),
        ("Pair", 1, 2), (b"pair", 1, 2), (["pair"], 1, 2), (None, 1, 2), ("either", 1, 2), ("pair", "1", 2),
        ("pair", 1, "2"), ("pair", 1, [2]), ("pair", None, None), (1, 2, "pair"), (), ((), (), ()), "pair", 3,
        ("cons", 1, 2), (("pair",), 1, 2), ("pair", ("pair", 1, 2), 3), ("pair", 1, ("pair", 2, 3)), ("list", 1, 2),
    )),
    (EITHER, (
        ("left",), ("right",), ("left", 1, 2), ("right", 1, 2), ("left", ()), ("right", ()), ["left", 1], ("first", 1),
        ("Left", 1), (b"left", 1), ("either", 1), ("left", True), ("right", False), ("left", None), ("right", "1"),
        ("left", [1]), ("right", ("right", 1)), (1, "left"), (1,), 1, (), "left", ("", 1), ("second", 1), ("both", 1),
        (["right"], 1), ({}, 1), ("leftright", 1), ("l", 1), ("pair", 1), ("pair", 1, 1), (0, 1), (1, 1), (True, 1),
    )),
    (SIDES, (("left", 3), ("right", ()), ("left", ((),)), ("right", (3,)), ("right", True), ("left", []), ((), ()))),
    (("either", NUM, UNIT), (("left", ()), ("right", 3), ("right", None), ("left", (3,)), ("right", ((),)))),
    (TRUTH, (("left",), ("right", True), ("left", 0), True, False, "left", ("left", [()]), (), ("left", (), ()))),
    (ROW, (
        [], [1], 1, None, "", "12", b"12", {}, {1: 2}, {1}, range(2), (True,), (1, False), (1, 2, None), (None, 1, 2),
        (1, "2"), ("1",), ((),), ((1,),), (1, (2,)), ([1],), (1, []), ("list", 1), ("cons", 1, ()), (1, ..., 3),
    )),
    (UNITS, ([], [()], (0,), ((), 0), (0, ()), ((), None), ([],), ((), []), (((),),), 0, None, ((), (), ((),)))),
    (ROWS, ((1,), (1, ()), ((), 1), ((1,), 2), ([1],), ((1,), [2]), (((1,),),), ((1,), (True,)), ((1,), ("2",)), [()])),
    (("list", TRUTH), ((True,), (YES, True), (YES, NO, ()), ((),), [YES], (["left", ()],), (YES, ("left", 1)), YES)),
    (("list", PAIR), (((1, 2),), (("pair", 1, 2), ("pair", 1)), ("pair", 1, 2), (("pair", 1, 2), 3), (["pair", 1, 2],))),
    (("pair", ROW, ROW), (("pair", 1, ()), ("pair", (), 1), ("pair", [], ()), ("pair", (), []), ("pair", (), (True,)))),
    (("either", ROW, NUM), (("left", 1), ("right", ()), ("right", (1,)), ("left", [1]), ("left", (1, ())), (1,))),
    (MIXED, (
        ("pair", (), ()), ("pair", ("left", ()), ("left", ())), ("pair", (("right", ()),), ("left", ())),
        ("pair", (("left", 0),), ("left", ())), ("pair", (), ("right", ("pair", (), ()))),
        ("pair", (), ("right", ("pair", 0, 0))), ("pair", (), ("left", 0)), ("pair", (), ("right", ())),
        ("pair", [], ("left", ())), ("pair", (YES, YES, NO), ("left", ())), ("pair", (YES,), ("left", ((),))),
    )),
)

NO_CLOSED_DATA_KINDS = (
    A, B, ("list", A), ("pair", NUM, A), ("pair", A, NUM), ("either", UNIT, B), ("either", B, UNIT),
    ("fun", NUM, NUM), ("fun", A, NUM), ("fun", NUM, A), ("list", ("fun", NUM, NUM)), ("pair", ("fun", NUM, NUM), NUM),
    ("either", NUM, ("fun", UNIT, UNIT)), ("pair", ("list", ("list", A)), NUM), ("list", ("pair", ("fun", A, A), A)),
)


def deep_value_rows(levels):
    """Closed data kinds of as many levels, beside two values that are unlike at the bottom alone, in order."""
    wraps = (
        (lambda kind: ("list", kind), lambda value: (value,)),
        (lambda kind: ("list", kind), lambda value: (value, value) if value in (0, 1) else (value,)),
        (lambda kind: ("pair", kind, UNIT), lambda value: ("pair", value, ())),
        (lambda kind: ("pair", UNIT, kind), lambda value: ("pair", (), value)),
        (lambda kind: ("pair", NUM, kind), lambda value: ("pair", 7, value)),
        (lambda kind: ("either", kind, UNIT), lambda value: ("left", value)),
        (lambda kind: ("either", NUM, kind), lambda value: ("right", value)),
    )
    rows = [[chain(wrap, NUM, levels)] + [chain(put, last, levels) for last in (0, 1)] for wrap, put in wraps]
    kind, less, more = NUM, -1, 0
    for level in range(levels - 1):
        wrap, put = wraps[level % len(wraps)]
        kind, less, more = wrap(kind), put(less), put(more)
    return rows + [[kind, less, more]]


def no_closed_data_kinds():
    broken = [["num"], "num", ("list", ["num"]), ("list",), ("pair", NUM), ("num", NUM), ("var", "d"), ((),), (NUM,)]
    broken += [chain(lambda kind: ("list", kind), NUM, levels) for levels in (101, 102, 200)]
    return list(NO_CLOSED_DATA_KINDS) + odd_things() + broken


class TestValues(unittest.TestCase):
    def test_values_are_values(self):
        for kind, row in ASCENDING:
            for value in row:
                with self.subTest(kind=kind, value=value):
                    self.assertIs(is_value(kind, value), True)
                    self.assertIs(is_value(kind=kind, value=value), True)
                    self.assertIs(is_value(value=value, kind=kind), True)

    def test_what_is_near_to_values_is_none(self):
        for kind, things in NO_VALUES:
            for thing in things:
                with self.subTest(kind=kind, thing=thing):
                    self.assertIs(is_value(kind, thing), False)
                    self.assertIs(is_value(kind=kind, value=thing), False)

    def test_unlike_kinds_have_unlike_values(self):
        for kind, row in ASCENDING:
            for other, others in ASCENDING:
                for value in others:
                    self.assertIs(is_value(kind, value), looks_like(kind, value))

    def test_lists_stand_for_no_tuples(self):
        for kind, row in ASCENDING:
            for value in row:
                if isinstance(value, tuple):
                    self.assertIs(is_value(kind, list(value)), False)

    def test_wrapped_values(self):
        for kind, row in ASCENDING:
            for value in row:
                self.assertIs(is_value(("list", kind), (value,)), True)
                self.assertIs(is_value(("list", kind), (value,) * 3), True)
                self.assertIs(is_value(("list", kind), [value]), False)
                self.assertIs(is_value(("pair", kind, kind), ("pair", value, value)), True)
                self.assertIs(is_value(("pair", kind, kind), (value, value)), False)
                self.assertIs(is_value(("either", kind, NUM), ("left", value)), True)
                self.assertIs(is_value(("either", NUM, kind), ("right", value)), True)
        for kind, things in NO_VALUES:
            good = dict(ASCENDING)[kind][0]
            for thing in things:
                self.assertIs(is_value(("list", kind), (thing,)), False)
                self.assertIs(is_value(("list", kind), (good, good, thing)), False)
                self.assertIs(is_value(("list", kind), (thing, good, good)), False)
                self.assertIs(is_value(("list", kind), (good, thing, good)), False)
                self.assertIs(is_value(("pair", kind, kind), ("pair", thing, good)), False)
                self.assertIs(is_value(("pair", kind, kind), ("pair", good, thing)), False)
                self.assertIs(is_value(("either", kind, kind), ("left", thing)), False)
                self.assertIs(is_value(("either", kind, kind), ("right", thing)), False)

    def test_whatever_it_is_nothing_is_raised(self):
        for kind, _ in ASCENDING:
            for thing in odd_things():
                self.assertIs(is_value(kind, thing), looks_like(kind, thing))

    def test_odd_words(self):
        for word in odd_words():
            self.assertIs(is_value(PAIR, (word, 1, 2)), False)
            self.assertIs(is_value(EITHER, (word, 1)), False)
            self.assertIs(is_value(TRUTH, (word, ())), False)
            self.assertIs(is_value(("list", PAIR), ((word, 1, 2),)), False)
            self.assertIs(is_value(("list", EITHER), (("left", 1), (word, 1))), False)

    def test_numbers_of_hundreds_of_figures(self):
        for value in (LONG, -LONG, 10 ** 400 - 1, 1 - 10 ** 400, 10 ** 300):
            self.assertIs(is_value(NUM, value), True)
            self.assertIs(is_value(ROW, (0, value)), True)
            self.assertIs(is_value(UNIT, value), False)

    def test_a_unit_is_an_empty_list(self):
        for kind in (UNIT, ROW, UNITS, ROWS, ("list", TRUTH), ("list", ("list", UNITS))):
            self.assertIs(is_value(kind, ()), True)
        for kind in (NUM, PAIR, EITHER, TRUTH):
            self.assertIs(is_value(kind, ()), False)

    def test_long_lists(self):
        self.assertIs(is_value(ROW, tuple(range(20000))), True)
        self.assertIs(is_value(UNITS, ((),) * 20000), True)
        self.assertIs(is_value(ROW, tuple(range(20000)) + (True,)), False)
        self.assertIs(is_value(ROW, (None,) + tuple(range(20000))), False)
        self.assertIs(is_value(ROWS, ((1, 2),) * 5000 + ((1, "2"),)), False)

    def test_deep_kinds(self):
        for levels in (2, 50, 99, 100):
            for kind, less, more in deep_value_rows(levels):
                self.assertIs(is_value(kind, less), True)
                self.assertIs(is_value(kind, more), True)
        for kind, less, more in deep_value_rows(99):
            self.assertIs(is_value(("list", kind), less), looks_like(("list", kind), less))
            self.assertIs(is_value(kind, (more,)), looks_like(kind, (more,)))
            for thing in deep_things():
                self.assertIs(is_value(kind, thing), False)

    def test_a_bad_bottom_of_a_deep_value(self):
        lists = chain(lambda kind: ("list", kind), NUM, 100)
        pairs = chain(lambda kind: ("pair", NUM, kind), NUM, 100)
        sides = chain(lambda kind: ("either", UNIT, kind), NUM, 100)
        for bad in (True, None, "", [], (0,)):
            self.assertIs(is_value(lists, chain(lambda value: (value,), bad, 100)), False)
            self.assertIs(is_value(pairs, chain(lambda value: ("pair", 0, value), bad, 100)), False)
            self.assertIs(is_value(sides, chain(lambda value: ("right", value), bad, 100)), False)


class TestOrder(unittest.TestCase):
    def test_each_kind_has_its_row(self):
        for kind, row in ASCENDING:
            for one, first in enumerate(row):
                for two, second in enumerate(row):
                    with self.subTest(kind=kind, one=first, two=second):
                        told = order(kind, first, second)
                        self.assertEqual(told, (one > two) - (one < two))
                        self.assertIs(type(told), int)

    def test_the_row_by_name(self):
        for kind, row in ASCENDING:
            for one, first in enumerate(row):
                for two, second in enumerate(row):
                    wanted = (one > two) - (one < two)
                    self.assertEqual(order(kind=kind, one=first, two=second), wanted)
                    self.assertEqual(order(two=second, one=first, kind=kind), wanted)

    def test_the_row_within_lists_pairs_and_sides(self):
        for kind, row in ASCENDING:
            for one, first in enumerate(row):
                for two, second in enumerate(row):
                    wanted = (one > two) - (one < two)
                    self.assertEqual(order(("list", kind), (first,), (second,)), wanted)
                    self.assertEqual(order(("list", kind), (row[0], first), (row[0], second)), wanted)
                    self.assertEqual(order(("list", kind), (first,), (second, row[0])), wanted or -1)
                    self.assertEqual(order(("list", kind), (first, row[0]), (second,)), wanted or 1)
                    self.assertEqual(order(("pair", kind, NUM), ("pair", first, 1), ("pair", second, 0)), wanted or 1)
                    self.assertEqual(order(("pair", NUM, kind), ("pair", 0, first), ("pair", 0, second)), wanted)
                    self.assertEqual(order(("pair", NUM, kind), ("pair", 0, first), ("pair", 1, second)), -1)
                    sides = ("either", kind, kind)
                    self.assertEqual(order(sides, ("left", first), ("left", second)), wanted)
                    self.assertEqual(order(sides, ("right", first), ("right", second)), wanted)
                    self.assertEqual(order(sides, ("left", first), ("right", second)), -1)
                    self.assertEqual(order(sides, ("right", first), ("left", second)), 1)

    def test_equal_values_made_apart_are_the_same(self):
        for kind, row in ASCENDING:
            for value in row:
                self.assertEqual(order(kind, value, rebuilt(value)), 0)
                self.assertEqual(order(kind, rebuilt(value), value), 0)

    def test_long_lists(self):
        row = tuple(range(20000))
        self.assertEqual(order(ROW, row, tuple(range(20000))), 0)
        self.assertEqual(order(ROW, row, row[:-1]), 1)
        self.assertEqual(order(ROW, row[:-1], row), -1)
        self.assertEqual(order(ROW, row, row[:-1] + (20000,)), -1)
        self.assertEqual(order(ROW, row[:-1] + (20000,), row), 1)
        self.assertEqual(order(ROW, (1,) + row[1:], row), 1)
        self.assertEqual(order(ROW, row, (1,)), -1)
        self.assertEqual(order(UNITS, ((),) * 20000, ((),) * 20001), -1)
        self.assertEqual(order(ROWS, (row, row), (row, row[:-1])), 1)

    def test_values_that_are_unlike_at_one_place_only(self):
        kind = ("list", ("pair", ROW, SIDES))
        things = [("pair", (1, 2, 3), ("right", 4)), ("pair", (5, 6), ("left", ())), ("pair", (), ("right", 7))]
        for at, better in (
            (0, ("pair", (2, 2, 3), ("right", 4))), (0, ("pair", (1, 2, 4), ("right", 4))),
            (0, ("pair", (1, 2, 3, 0), ("right", 4))), (0, ("pair", (1, 2, 3), ("right", 5))),
            (1, ("pair", (5, 6), ("right", -9))), (1, ("pair", (5, 7), ("left", ()))),
            (2, ("pair", (0,), ("right", 7))), (2, ("pair", (), ("right", 8))),
        ):
            changed = things[:at] + [better] + things[at + 1:]
            self.assertEqual(order(kind, tuple(things), tuple(changed)), -1)
            self.assertEqual(order(kind, tuple(changed), tuple(things)), 1)

    def test_the_first_unlike_place_tells(self):
        self.assertEqual(order(ROW, (1, 9, 9), (2, 0, 0)), -1)
        self.assertEqual(order(ROW, (2, 0, 0), (1, 9, 9)), 1)
        self.assertEqual(order(ROW, (2,), (1, 9, 9)), 1)
        self.assertEqual(order(PAIR, ("pair", 1, 9), ("pair", 2, 0)), -1)
        self.assertEqual(order(("list", PAIR), (("pair", 0, 5),), (("pair", 1, 0), ("pair", 0, 0))), -1)

    def test_deep_values(self):
        for levels in (2, 50, 99, 100):
            for kind, less, more in deep_value_rows(levels):
                self.assertEqual(order(kind, less, more), -1)
                self.assertEqual(order(kind, more, less), 1)
                self.assertEqual(order(kind, less, rebuilt(less)), 0)
                self.assertEqual(order(kind, more, more), 0)

    def test_a_second_call_tells_the_same(self):
        for kind, row in ASCENDING:
            for value in row:
                self.assertEqual(order(kind, row[0], value), order(kind, row[0], value))
                self.assertEqual(is_value(kind, value), is_value(kind, value))


class TestWrong(unittest.TestCase):
    def refused(self, error, thing, function, *told, **named):
        with self.assertRaises(error) as caught:
            function(*told, **named)
        self.assertIs(type(caught.exception), error)
        self.assertIs(caught.exception.given, thing)

    def test_no_closed_data_kind(self):
        for thing in no_closed_data_kinds():
            self.refused(InvalidKind, thing, is_value, thing, ())
            self.refused(InvalidKind, thing, is_value, kind=thing, value=0)
            self.refused(InvalidKind, thing, order, thing, (), ())
            self.refused(InvalidKind, thing, order, kind=thing, one=0, two=1)

    def test_deep_kinds_with_a_variable_or_a_function_at_the_bottom(self):
        for bottom in (A, ("fun", NUM, NUM)):
            for wrap in (lambda x: ("list", x), lambda x: ("pair", x, NUM), lambda x: ("either", NUM, x)):
                kind = chain(wrap, bottom, 99)
                self.refused(InvalidKind, kind, is_value, kind, ())
                self.refused(InvalidKind, kind, order, kind, (), ())

    def test_no_value(self):
        for kind, things in NO_VALUES:
            good = dict(ASCENDING)[kind]
            for thing in things:
                self.refused(InvalidValue, thing, order, kind, thing, good[0])
                self.refused(InvalidValue, thing, order, kind, good[-1], thing)
                self.refused(InvalidValue, thing, order, kind=kind, one=thing, two=good[0])
                self.refused(InvalidValue, thing, order, kind=kind, one=good[0], two=thing)

    def test_no_value_whatever_it_is(self):
        for thing in odd_things():
            for kind, good in ((TRUTH, YES), (PAIR, ("pair", 0, 0)), (("pair", UNIT, UNIT), ("pair", (), ()))):
                self.refused(InvalidValue, thing, order, kind, thing, good)
                self.refused(InvalidValue, thing, order, kind, good, thing)

    def test_the_first_wrong_argument_is_told(self):
        bad, worse = ["one"], ["two"]
        for kind in (A, ("fun", NUM, NUM), ["num"], None):
            self.refused(InvalidKind, kind, is_value, kind, bad)
            self.refused(InvalidKind, kind, order, kind, bad, worse)
            self.refused(InvalidKind, kind, order, kind, 0, worse)
            self.refused(InvalidKind, kind, order, kind, bad, 0)
            self.refused(InvalidKind, kind, order, two=worse, one=bad, kind=kind)
        for kind in (NUM, ROW, TRUTH, MIXED):
            self.refused(InvalidValue, bad, order, kind, bad, worse)
            self.refused(InvalidValue, bad, order, two=worse, one=bad, kind=kind)

    def test_the_same_wrong_value_twice(self):
        bad = ("pair", 0)
        self.refused(InvalidValue, bad, order, PAIR, bad, bad)

    def test_the_whole_value_is_told_where_a_part_is_wrong(self):
        bad = ((1, 2), (3, True))
        with self.assertRaises(InvalidValue) as caught:
            order(ROWS, ((1, 2),), bad)
        self.assertIs(caught.exception.given, bad)

    def test_values_of_unlike_kinds_are_not_put_in_a_row(self):
        self.refused(InvalidValue, ("left", 1), order, SIDES, ("left", ()), ("left", 1))
        for flag in (True, False):
            self.refused(InvalidValue, flag, order, NUM, flag, 1)
            self.refused(InvalidValue, flag, order, NUM, 0, flag)

    def test_nothing_passed_is_changed(self):
        for kind, thing in ((ROW, [1, [2]]), (PAIR, ("pair", [1], {2: [3]})), (ROWS, ((1,), [2, {"a": 1}]))):
            kept = copy.deepcopy(thing)
            self.assertIs(is_value(kind, thing), False)
            self.assertRaises(InvalidValue, order, kind, thing, ())
            self.assertRaises(InvalidKind, order, thing, thing, ())
            self.assertEqual(thing, kept)

    def test_what_can_be_gone_through_once_is_not_gone_through(self):
        thing = iter([1, 2])
        self.assertIs(is_value(ROW, thing), False)
        self.assertRaises(InvalidValue, order, ROW, thing, ())
        self.assertEqual(list(thing), [1, 2])


def looks_like(kind, value):
    """Whether it is a value of the kind, told apart from the program."""
    if kind == NUM:
        return type(value) is int
    if type(value) is not tuple:
        return False
    if kind == UNIT:
        return value == ()
    if kind[0] == "list":
        return all(looks_like(kind[1], thing) for thing in value)
    if not value or type(value[0]) is not str:
        return False
    if kind[0] == "pair":
        parts = [(kind[1], 1), (kind[2], 2)] if value[0] == "pair" else None
    else:
        parts = {"left": [(kind[1], 1)], "right": [(kind[2], 1)]}.get(value[0])
    if parts is None or len(value) != len(parts) + 1:
        return False
    return all(looks_like(part, value[at]) for part, at in parts)


def rebuilt(value):
    """An equal value that is another object wherever this is possible."""
    if isinstance(value, tuple):
        return tuple([rebuilt(thing) for thing in value])
    if isinstance(value, str):
        return "".join(list(value))
    return value + 1 - 1


if __name__ == "__main__":
    unittest.main()

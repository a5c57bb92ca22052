"""Points 6, E1 and E2: which claims are accepted, and with which papers."""

import copy
import itertools
import unittest

from bykindalone.checker import accepts
from bykindalone.kinds import TRUTH
from bykindalone.meaning import told
from bykindalone.promises import promise_of
from bykindalone.relations import both_told, way_apart
from bykindalone.text import read_kind, read_term
from meant import meant
from related import all_ways, closed_thing, ones_of, pairs_of, relation_from, twos_of
from things import A, B, NUM, UNIT, chain, odd_things

T, K = read_term, read_kind
YES, NO = ("left", ()), ("right", ())
AS_NUM, AS_UNIT = (("a", NUM),), (("a", UNIT),)
SAME = T("fn l: list a. l")
BACK = T("fn l: list a. fold(fn x: a. fn f: list a -> list a. fn r: list a. f(cons(x, r)), fn r: list a. r, l)(nil(a))")
TWICE = T("fn l: list a. fold(fn x: a. fn r: list a. cons(x, cons(x, r)), nil(a), l)")
ROWS = K("list a -> list a")
KEPT = T("fn t: a -> unit | unit. fn l: list a. fold(fn x: a. fn r: list a. case t(x) {u. cons(x, r); v. r}, nil(a), l)")
ALL = T("fn t: a -> unit | unit. fn l: list a. l")
UNPUT = T("fn p: (a, a) -> (a, a). fn l: list a. l")
PUT_TWO = T("fn p: (a, a) -> (a, a). fn l: list a. case fold(fn x: a. fn s: unit | (a, list a). case s {u. right(unit, (x, nil(a))); "
            "q. let t = p((x, first(q))) in right(unit, (first(t), cons(second(t), second(q))))}, left((), (a, list a)), l) "
            "{u. nil(a); q. cons(first(q), second(q))}")
SIGNS = (("a", NUM, TRUTH, ((-2, NO), (0, YES), (3, YES), (3, NO))),)
TENS = (("a", NUM, NUM, ((1, 10), (2, 20), (3, 30))),)
TO_NUM, ONE, ONES = K("a -> num"), T("fn x: num. x"), T("fn x: unit | unit. 3")
TESTED, TESTS = K("(a -> unit | unit) -> list a -> list a"), (T("fn x: num. x < 2"), T("fn x: unit. left(x, unit)"))
RUN, UNIT_RUN = (AS_NUM, ((1, 2),), (2, 1)), (AS_UNIT, (((), ()),), ((),))
MANY = (("a", NUM, NUM, tuple((at, at) for at in range(401))),)
LONG = (("test", 1), ((),) * 13)
PROMISE = promise_of(ROWS)
BESIDE = T("fn x: a. fn t: a -> a -> unit | unit. fn y: a. t(x)(y)")
OTHER_WAY = T("fn x: a. fn t: a -> a -> unit | unit. fn y: a. t(y)(x)")

GOOD = (
    (("kind", SAME, ROWS), ()), (("kind", ("number", 3), NUM), ()), (("kind", T("nil(a)"), K("list a")), ()),
    (("no kind", ("name", "x")), ()), (("no kind", T("fn x: a. x + 1")), ()),
    (("tells", BACK, RUN), ()), (("tells", ("number", 3), ((), (), 3)), ()),
    (("tells", T("fn f: a -> num. fn x: a. f(x)"), (AS_NUM, (T("fn x: num. x + 1"), 4), 5)), ()),
    (("tells not", BACK, (AS_NUM, ((1, 2),), (1, 2))), ()), (("tells not", ("number", 3), (AS_NUM, (), 4)), ()),
    (("tells not", SAME, (AS_UNIT, ((),), ((),))), ()),
    (("some tells", ROWS, (RUN,)), BACK), (("some tells", ROWS, (RUN, (AS_UNIT, (((), ()),), ((), ())))), BACK),
    (("some tells", K("num"), (((), (), 4),)), ("number", 4)),
    (("some tells", K("(a -> num) -> a -> num"), ((AS_NUM, (ONE, 4), 4), (AS_UNIT, (T("fn x: unit. 7"), ()), 7))),
        T("fn f: a -> num. fn x: a. f(x)")),
    (("none tells", ROWS, ((AS_NUM, ((1, 2),), (3,)),)), (("a", NUM, NUM, ((1, 1), (2, 2))),)),
    (("none tells", ROWS, (RUN, UNIT_RUN)), (("a", NUM, UNIT, ((1, ()), (2, ()))),)),
    (("none tells", ROWS, ((AS_NUM, ((1, 2),), (3,)),)), (("a", NUM, NUM, ((1, 1), (2, 2), (4, 4))), ("c", UNIT, NUM, ()))),
    (("none tells", K("num"), (((), (), 4), ((), (), 5))), ()),
    (("none tells", ROWS, ((AS_NUM, ((1, 2),), (3,)),)), (("a", NUM, NUM, ((1, 1), (1, 2), (2, 2))),)),
    (("none tells", TESTED, ((AS_NUM, (TESTS[0], (1, 1)), (2,)),)), (("a", NUM, NUM, ((1, 1),)),)),
    (("none tells", TESTED, ((AS_NUM, (TESTS[0], (1, 0)), (1,)), (AS_UNIT, (TESTS[1], ((), ())), ()))),
        (("a", NUM, UNIT, ((0, ()), (1, ()))),)),
    (("none tells", ROWS, ((AS_NUM, ((),), (3,)),)), (("a", NUM, NUM, ()),)),
    (("none tells", ROWS, (RUN, (AS_UNIT, (((), ()),), ()))), (("a", NUM, UNIT, ((1, ()), (2, ()))),)),
    (("none tells", K("list b -> list a"), (((("a", NUM), ("b", UNIT)), ((),), (3,)),
        ((("a", UNIT), ("b", NUM), ("c", NUM)), ((),), ((),)))), (("a", NUM, UNIT, ()), ("b", UNIT, NUM, ()))),
    (("table", TWICE, (((), ()),), (0, 0, 1, 1)), ()), (("table", SAME, ((),), ()), ()),
    (("table", T("fn n: num. n + 1"), (3,), 4), ()),
    (("no table", TWICE, (((), ()),), (0, 1, 0, 1)), (AS_NUM, (("a", (5, 7)),))),
    (("no table", SAME, (((), ()),), (0,)), (AS_UNIT, (("a", ((), ())),))),
    (("no table", T("fn n: num. n + 1"), (3,), 5), ((), ())),
    (("no table", T("fn n: num. n + 1"), (3,), 5), (AS_NUM, ())),
    (("alike", SAME, BACK, (((),),)), ()), (("alike", BACK, BACK, (((), (), ()),)), ()),
    (("unlike", SAME, BACK, (((), ()),)), (AS_NUM, (("a", (0, 1)),))),
    (("unlike", SAME, BACK, (((), ()),)), ((("a", ("list", NUM)),), (("a", ((), (3,))),))),
    (("unlike", SAME, TWICE, (((),),)), (AS_UNIT, (("a", ((),)),))),
    (("tested alike", KEPT, ALL, (("test", 1), ())), ()), (("tested alike", KEPT, KEPT, (("test", 1), ((),) * 3)), ()),
    (("tested alike", SAME, BACK, (((),),)), ()),
    (("tested unlike", KEPT, ALL, (("test", 1), ((), ()))), ((YES, NO),)),
    (("tested unlike", KEPT, ALL, (("test", 1), ((), ()))), ((NO, NO),)),
    (("tested unlike", BESIDE, OTHER_WAY, ((), ("test", 2), ())), (((YES, YES), (NO, YES)),)),
    (("tested unlike", SAME, BACK, (((), ()),)), ()),
    (("in order", UNPUT, 1), ()), (("in order", UNPUT, 0), ()), (("in order", PUT_TWO, 2), ()),
    (("out of order", UNPUT, 2), (7, 5)), (("out of order", UNPUT, 3), (1, 3, 2)), (("out of order", PUT_TWO, 3), (1, 0, 0)),
    (("out of order", PUT_TWO, 3), (9, -4, -5)),
    (("related", K("list a"), SIGNS, (0, 3), (YES, NO)), ()), (("related", TO_NUM, SIGNS, T("fn x: num. 3"), ONES), ()),
    (("related", UNIT, (), (), ()), ()),
    (("not related", K("list a"), SIGNS, (0, 0, 0), (YES, NO, NO)), (1,)),
    (("not related", K("list a"), SIGNS, (0, 0, 0), (YES, NO, NO)), (2,)), (("not related", K("list a"), SIGNS, (0,), ()), ()),
    (("not related", TO_NUM, SIGNS, ONE, ONES), (("with", -2, NO),)),
    (("not related", TO_NUM, SIGNS, ONE, ONES), (("with", 0, YES),)),
    (("not related", K("(num, a | num)"), SIGNS, ("pair", 1, ("left", 0)), ("pair", 2, ("left", NO))), ("first",)),
    (("not related", K("(num, a | num)"), SIGNS, ("pair", 1, ("left", 0)), ("pair", 2, ("left", NO))), ("second", "side")),
    (("not related", K("a | num"), SIGNS, ("left", 0), ("right", 0)), ()),
    (("not related", K("a -> a -> num"), SIGNS, T("fn x: num. fn y: num. y"), T("fn x: unit | unit. fn y: unit | unit. 3")),
        (("with", 3, NO), ("with", 0, YES))), (("not related", NUM, (), 3, 4), ()),
    (("not related", TO_NUM, (("a", NUM, NUM, ((0, 1),)),), ONE, ONE), (("with", 0, 1),)),
    (("not related", K("num | a"), SIGNS, ("right", 0), ("right", NO)), ("side",)),
    (("not related", K("a | num"), SIGNS, ("right", 0), ("right", 1)), ("side",)),
    (("not related", K("unit | (a, list a)"), SIGNS, ("right", ("pair", 0, (3, 0))), ("right", ("pair", YES, (NO, NO)))),
        ("side", "second", 1)),
    (("kept", TWICE, TENS, ((1, 2),), ((10, 20),)), ()), (("kept", ("number", 3), (), (), ()), ()),
    (("kept", T("fn f: a -> num. fn x: a. f(x)"), TENS, (T("fn x: num. x * 10"), 2), (ONE, 20)), ()),
    (("turned", TWICE, TENS, ((1, 2),), (10, 10, 20, 20)), ()),
    (("turned", T("fn l: list a. fn n: num. (n, l)"), TENS, ((1, 2), 5), ("pair", 5, (10, 20))), ()),
    (("turned", T("fn n: num. n + 1"), (), (4,), 5), ()),
    (("turned", T("fn x: a. fn p: b. (p, x)"), (("a", NUM, UNIT, ((1, ()),)), ("b", NUM, NUM, ((4, 5),))), (1, 4),
        ("pair", 5, ())), ()),
    (("promise", ROWS, PROMISE), ()), (("promise", NUM, ("same", ("one",), ("two",))), ()),
    (("promise", A, ("by", "a", ("one",), ("two",))), ()),
)
WORDS = (
    "kind", "no kind", "tells", "tells not", "some tells", "none tells", "table", "no table", "alike", "unlike", "tested alike",
    "tested unlike", "in order", "out of order", "related",
    "not related", "kept", "turned", "promise",
)
DEEP = chain(lambda part: ("minus", part), ("number", 1), 17)
SEVEN = chain(lambda part: ("list", part), NUM, 7)
BENT_PROMISE = PROMISE[:1] + (True,) + PROMISE[2:]

# Claims that are none, and claims that are not so, beside papers that show nothing.
WRONG = (
    (("kind", SAME, K("list a")), ()), (("kind", SAME, K("list b -> list b")), ()), (("kind", ("name", "x"), NUM), ()),
    (("kind", DEEP, NUM), ()), (("kind", ("nil", SEVEN), ("list", SEVEN)), ()), (("kind", SAME, list(ROWS)), ()),
    (("kind", T("fn x: a. x + 1"), None), ()),
    (("no kind", SAME), ()), (("no kind", ("fn",)), ()), (("no kind", DEEP), ()),
    (("no kind", chain(lambda part: ("first", part), ("name", "x"), 17)), ()),
    (("no kind", ("pair", ("name", "x"), ("nil", SEVEN))), ()),
    (("tells", BACK, (AS_NUM, ((1, 2),), (1, 2))), ()), (("tells", BACK, (AS_NUM, ((1, 2),))), ()),
    (("tells", BACK, list(RUN)), ()), (("tells", BACK, RUN + (0,)), ()), (("tells", BACK, ((), ((1, 2),), (2, 1))), ()),
    (("tells", BACK, (AS_UNIT, ((1, 2),), (2, 1))), ()), (("tells", BACK, (AS_NUM, ((1, 2), 3), (2, 1))), ()),
    (("tells", BACK, (AS_NUM, (), (2, 1))), ()), (("tells", BACK, (AS_NUM, ((1, 0),), (False, True))), ()),
    (("tells", ("number", 1), ((), (), True)), ()),
    (("tells", ("name", "x"), ((), (), 1)), ()), (("tells", DEEP, ((), (), 1)), ()),
    (("tells", SAME, ((("d", NUM),), ((),), ())), ()), (("tells", T("nil(num -> num)"), ((), (), ())), ()),
    (("tells not", BACK, RUN), ()), (("tells not", BACK, (AS_NUM, ((1, 2),), (True,))), ()),
    (("tells not", BACK, (AS_NUM, ((1, 2),), 3)), ()), (("tells not", BACK, (AS_NUM, ((1, ()),), (2, 1))), ()),
    (("tells not", BACK, (AS_NUM, (), (2, 1))), ()), (("tells not", ("name", "x"), RUN), ()),
    (("tells not", BACK, (AS_NUM, ((1, 2),), [1, 2])), ()), (("tells not", T("nil(num -> num)"), ((), (), ())), ()),
    (("tells not", ("number", 0), ((), (), False)), ()),
    (("some tells", ROWS, (RUN,)), SAME), (("some tells", ROWS, (RUN,)), T("fn l: list b. l")), (("some tells", ROWS, ()), BACK),
    (("some tells", ROWS, (RUN, RUN, RUN)), BACK), (("some tells", ROWS, [RUN]), BACK), (("some tells", ROWS, RUN), BACK),
    (("some tells", ROWS, (RUN, (AS_UNIT, (((), ()),), ((),)))), BACK), (("some tells", ROWS, (RUN, None)), BACK),
    (("some tells", K("list num -> list num"), (RUN,)), BACK), (("some tells", ROWS, ((AS_NUM, ((1,),), (True,)),)), BACK),
    (("some tells", None, (RUN,)), BACK),
    (("some tells", ROWS, ((AS_NUM, ((1,),), (1,)), (AS_NUM, ((1, 2),), (1, 2)))), BACK),
    (("some tells", ROWS, ((AS_NUM, ((1, 2),), (1, 2)), RUN)), BACK), (("some tells", K("num"), (((), (), 1),)), DEEP),
    (("some tells", ("fun", SEVEN, NUM), (RUN,)), BACK),
    (("none tells", ROWS, (RUN,)), (("a", NUM, NUM, ((1, 1), (2, 2))),)),
    (("none tells", ROWS, ((AS_NUM, ((1, 2),), (3,)),)), (("a", NUM, NUM, ((1, 1),)),)),
    (("none tells", ROWS, ((AS_NUM, ((1, 2),), (3,)),)), (("a", NUM, NUM, ((1, 1), (2, 2), (3, 3))),)),
    (("none tells", ROWS, ((AS_NUM, ((1, 2),), (3,)),)), (("a", NUM, NUM, ((2, 2), (1, 1))),)),
    (("none tells", ROWS, ((AS_NUM, ((1, 2),), (3,)),)), (("a", NUM, UNIT, ((1, ()), (2, ()))),)),
    (("none tells", ROWS, ((AS_NUM, ((1, 2),), (3,)),)), ()),
    (("none tells", ROWS, ((AS_NUM, ((1, 2),), (3,)),)), (("b", NUM, NUM, ((1, 1), (2, 2))),)),
    (("none tells", ROWS, ((AS_NUM, ((1, 2),), (3,)), None)), (("a", NUM, NUM, ((1, 1), (2, 2))),)),
    (("none tells", ROWS, ()), (("a", NUM, NUM, ()),)),
    (("none tells", ROWS, (RUN, UNIT_RUN)), (("a", UNIT, NUM, (((), 1), ((), 2))),)),
    (("none tells", ROWS, (UNIT_RUN, RUN)), (("a", NUM, UNIT, ((1, ()), (2, ()))),)),
    (("none tells", ROWS, (RUN, UNIT_RUN)), (("a", NUM, NUM, ((1, 1), (2, 2))),)),
    (("none tells", ROWS, (RUN, UNIT_RUN)), (("a", UNIT, UNIT, (((), ()),)),)),
    (("none tells", TESTED, ((AS_NUM, (TESTS[0], (1, 1)), (2,)),)), (("a", NUM, NUM, ((1, 1), (1, 3))),)),
    (("none tells", K("(num -> a) -> a"), ((AS_NUM, (T("fn n: num. n"),), 3), (AS_NUM, (T("fn n: num. n"),), 3))),
        (("a", NUM, NUM, ()),)), (("none tells", K("(a -> num) -> num"), ((AS_NUM, (ONE,), 3), (AS_NUM, (ONE,), 4))), MANY),
        (("none tells", K("num"), (((), (), 4),)), ()),
    (("none tells", K("num"), (((), (), 4), ((), (), 4))), ()),
    (("none tells", ROWS, ((AS_NUM, ((),), (3,)),)), (("a", UNIT, NUM, ()),)),
    (("none tells", ROWS, ((AS_NUM, ((),), (3,)),)), (("a", NUM, UNIT, ()),)),
    (("none tells", ROWS, ((AS_NUM, ((),), (3,)),)), (("a", UNIT, UNIT, ()),)),
    (("none tells", K("list b -> list a"), (((("a", NUM), ("b", UNIT)), ((),), (3,)), ((("a", UNIT), ("b", NUM)), ((),), ((),)))),
        (("a", NUM, UNIT, ()), ("b", UNIT, UNIT, ()))),
    (("none tells", K("list b -> list a"), (((("a", NUM), ("b", UNIT)), ((),), (3,)), ((("a", UNIT), ("b", NUM)), ((),), ((),)))),
        (("a", NUM, UNIT, ()), ("b", NUM, NUM, ()))),
    (("none tells", K("list b -> list a"), (((("a", NUM), ("b", UNIT)), ((),), (3,)), ((("a", UNIT), ("b", NUM)), ((),), ((),)))),
        (("a", UNIT, NUM, ()), ("b", NUM, UNIT, ()))),
    (("table", TWICE, (((), ()),), (0, 1, 0, 1)), ()), (("table", TWICE, (((), ()),), (0, 0, 1, 2)), ()),
    (("table", TWICE, (((), 0),), (0, 0, 1, 1)), ()), (("table", TWICE, ((), ()), (0, 0, 1, 1)), ()),
    (("table", T("fn n: num. n + 1"), (3,), True), ()), (("table", T("fn n: num. n"), (1,), True), ()),
    (("table", KEPT, (("test", 1), ()), ()), ()), (("table", ("number", 3), (), 3), ()),
    (("table", TWICE, (((), ()),), [0, 0, 1, 1]), ()), (("table", SAME, (((), ()),), (False, True)), ()),
    (("no table", TWICE, (((), ()),), (0, 0, 1, 1)), (AS_NUM, (("a", (5, 7)),))),
    (("no table", TWICE, (((), ()),), (0, 1, 0, 1)), (AS_NUM, (("a", (5, 5)),))),
    (("no table", TWICE, (((), ()),), (0, 1, 0, 1)), (AS_UNIT, (("a", ((), ())),))),
    (("no table", TWICE, (((), ()),), (0, 1, 0, 2)), (AS_NUM, (("a", (5, 7)),))),
    (("no table", TWICE, (((), ()),), (0, 1, 0, 1)), ((), (("a", (5, 7)),))),
    (("no table", TWICE, (((), ()),), (0, 1, 0, 1)), (AS_NUM, (("a", (5,)),))),
    (("no table", TWICE, (((), ()),), (0, 1, 0, 1)), (AS_NUM, ())),
    (("no table", TWICE, (((), ()),), (0, 1, 0, 1)), [AS_NUM, (("a", (5, 7)),)]),
    (("no table", TWICE, (((), ()),), (0, 1, 0, 1)), (AS_NUM, (("a", (5, 7)),), 0)),
    (("no table", TWICE, (((), ()),), (0, 1, 0, 1)), ()), (("no table", SAME, ((),), (0,)), (AS_NUM, (("a", ()),))),
    (("no table", T("fn n: num. n + 1"), (3,), 5), ()),
    (("alike", SAME, BACK, (((), ()),)), ()), (("alike", SAME, T("fn l: list b. l"), ((),)), ()),
    (("alike", SAME, BACK, ((), ())), ()), (("alike", SAME, BACK, ([],)), ()), (("alike", KEPT, KEPT, (("test", 1), ())), ()),
    (("alike", SAME, ("name", "x"), ((),)), ()), (("alike", DEEP, SAME, ((),)), ()),
    (("alike", ("number", 3), ("number", 3), ()), ()),
    (("unlike", SAME, BACK, (((), ()),)), (AS_NUM, (("a", (4, 4)),))),
    (("unlike", SAME, BACK, (((), ()),)), (AS_UNIT, (("a", ((), ())),))),
    (("unlike", SAME, BACK, (((),),)), (AS_NUM, (("a", (4,)),))),
    (("unlike", SAME, BACK, (((), ()),)), (AS_NUM, (("a", (4, 5, 6)),))),
    (("unlike", SAME, BACK, (((), ()),)), ((), (("a", (4, 5)),))), (("unlike", SAME, BACK, (((), ()),)), ()),
    (("unlike", SAME, BACK, (((), ()),)), (AS_NUM, (("a", (4, 5)),), ())),
    (("unlike", SAME, T("fn l: list b. l"), ((),)), (AS_NUM, (("a", ()),))),
    (("unlike", SAME, T("fn l: list a. fn m: list a. l"), (((), ()),)), (AS_NUM, (("a", (4, 5)),))),
    (("unlike", SAME, T("fn l: list a. fold(fn x: a. fn s: num. s + 1, 0, l)"), (((), ()),)), (AS_NUM, (("a", (4, 5)),))),
    (("unlike", SAME, BACK, (((), 0),)), (AS_NUM, (("a", (4, 5)),))),
    (("tested alike", KEPT, ALL, (("test", 1), ((),))), ()), (("tested alike", KEPT, SAME, (("test", 1), ())), ()),
    (("tested alike", KEPT, KEPT, LONG), ()), (("tested alike", KEPT, KEPT, (("test", 2), ())), ()),
    (("tested alike", KEPT, KEPT, (("test", True), ())), ()),
    (("tested alike", UNPUT, UNPUT, (("test", 1), ())), ()), (("tested alike", SAME, BACK, (((), ()),)), ()),
    (("tested unlike", KEPT, ALL, (("test", 1), ((), ()))), ((YES, YES),)),
    (("tested unlike", KEPT, ALL, (("test", 1), ((), ()))), ((YES,),)),
    (("tested unlike", KEPT, ALL, (("test", 1), ((), ()))), (YES, NO)),
    (("tested unlike", KEPT, ALL, (("test", 1), ((), ()))), ()), (("tested unlike", KEPT, ALL, LONG), ((NO,) * 13,)),
    (("tested unlike", KEPT, ALL, (("test", 1), ())), ((),)),
    (("tested unlike", KEPT, T("fn t: b -> unit | unit. fn l: list b. l"), (("test", 1), ((),))), ((NO,),)),
    (("tested unlike", SAME, BACK, (((),),)), ()), (("tested unlike", KEPT, ALL, (((), ()), ("test", 1))), ((NO, NO),)),
    (("tested unlike", KEPT, T("fn t: a -> unit | unit. fn l: list a. fold(fn x: a. fn s: num. s + 1, 0, l)"),
        (("test", 1), ((),))), ((NO,),)),
    (("in order", UNPUT, 2), ()), (("in order", PUT_TWO, 3), ()), (("in order", UNPUT, True), ()), (("in order", UNPUT, 11), ()),
    (("in order", UNPUT, -1), ()), (("in order", SAME, 1), ()), (("in order", UNPUT, "1"), ()),
    (("out of order", UNPUT, 2), (5, 7)), (("out of order", UNPUT, 2), (5, 5)), (("out of order", UNPUT, 2), (3, 2, 1)),
    (("out of order", UNPUT, 3), (2, 1)), (("out of order", UNPUT, 2), [7, 5]), (("out of order", UNPUT, 2), (True, False)),
    (("out of order", UNPUT, 2), (7, ())), (("out of order", UNPUT, 0), ()),
    (("out of order", UNPUT, 11), (2, 1) + (3,) * 9), (("out of order", SAME, 2), (7, 5)), (("out of order", PUT_TWO, 2), (3, 1)),
    (("out of order", UNPUT, 2), ()), (("out of order", UNPUT, True), (1,)), (("out of order", UNPUT, -1), ()),
    (("related", K("list a"), SIGNS, (0, 3), (NO, NO)), ()), (("related", K("list b"), SIGNS, (), ()), ()),
    (("related", K("num -> a"), SIGNS, ONE, ONE), ()), (("related", K("list a"), SIGNS, [0], (YES,)), ()),
    (("related", TO_NUM, MANY, ONE, ONE), ()), (("related", NUM, (), 1, True), ()), (("related", TO_NUM, SIGNS, ONE, ONES), ()),
    (("related", NUM, [], 1, 1), ()), (("related", ("list",), (), (), ()), ()), (("related", A, SIGNS, True, YES), ()),
    (("not related", K("list a"), SIGNS, (0, 0, 0), (YES, NO, NO)), (0,)),
    (("not related", K("list a"), SIGNS, (0, 0, 0), (YES, NO, NO)), (3,)),
    (("not related", K("list a"), SIGNS, (0, 0, 0), (YES, NO, NO)), (-1,)),
    (("not related", K("list a"), SIGNS, (0, 0, 0), (YES, NO, NO)), (True,)),
    (("not related", K("list a"), SIGNS, (0, 0, 0), (YES, NO, NO)), ()),
    (("not related", K("list a"), SIGNS, (0, 0, 0), (YES, NO, NO)), [1]),
    (("not related", K("list a"), SIGNS, (0, 0, 0), (YES, NO, NO)), (1, 1)),
    (("not related", K("list a"), SIGNS, (0, 0, 0), (YES, NO, NO)), ("1",)),
    (("not related", K("list a"), SIGNS, (0, 0, 0), (NO, NO)), (0,)),
    (("not related", K("list a"), SIGNS, (0, 0, 0), (NO, NO)), (0, 0)), (("not related", K("list a"), SIGNS, (0,), (YES,)), ()),
    (("not related", TO_NUM, SIGNS, ONE, ONES), (("with", 3, NO),)),
    (("not related", TO_NUM, SIGNS, ONE, ONES), (("with", -2, YES),)),
    (("not related", TO_NUM, SIGNS, ONE, ONES), (("with", -2, NO, 0),)),
    (("not related", TO_NUM, SIGNS, ONE, ONES), (["with", -2, NO],)),
    (("not related", TO_NUM, SIGNS, ONE, ONES), (("of", -2, NO),)), (("not related", TO_NUM, SIGNS, ONE, ONES), (-2,)),
    (("not related", TO_NUM, SIGNS, ONE, ONES), ()),
    (("not related", TO_NUM, SIGNS, ONE, ONES), (("with", -2, NO), "first")),
    (("not related", TO_NUM, SIGNS, ONE, ONES), (("with", False, YES),)),
    (("not related", TO_NUM, TENS, T("fn x: num. x * 10"), T("fn x: num. x + 1")), (("with", True, 10),)),
    (("not related", TO_NUM, SIGNS, ONE, ONES), (("with", NO, -2),)),
    (("not related", TO_NUM, SIGNS, ONE, ONES), (("with", -2, ["right", ()]),)),
    (("not related", TO_NUM, MANY, ONE, T("fn x: num. 1")), (("with", 0, 0),)),
    (("not related", K("(num, a | num)"), SIGNS, ("pair", 1, ("left", 0)), ("pair", 2, ("left", NO))), ("second",)),
    (("not related", K("(num, a | num)"), SIGNS, ("pair", 1, ("left", 0)), ("pair", 2, ("left", NO))), (1,)),
    (("not related", K("(num, a | num)"), SIGNS, ("pair", 1, ("left", 0)), ("pair", 1, ("left", NO))), ("first",)),
    (("not related", K("(num, a | num)"), SIGNS, ("pair", 1, ("left", 0)), ("pair", 2, ("left", NO))), ()),
    (("not related", K("a | num"), SIGNS, ("left", 0), ("right", 0)), ("side",)),
    (("not related", K("a | num"), SIGNS, ("left", 0), ("left", NO)), ()),
    (("not related", K("a | num"), SIGNS, ("left", 0), ("left", NO)), ("side", "side")),
    (("not related", K("a | num"), SIGNS, ("left", 0), ("left", NO)), ("left",)),
    (("not related", NUM, (), 3, 4), ("first",)), (("not related", NUM, (), 3, 3), ()), (("not related", UNIT, (), (), ()), ()),
    (("not related", NUM, (), 0, False), ()), (("not related", TO_NUM, SIGNS, T("fn x: num. 3"), ONES), ()),
    (("not related", TO_NUM, (("a", NUM, NUM, ((0, 1),)),), ONE, ONE), (("with", 0, True),)),
    (("not related", TO_NUM, (("a", NUM, NUM, ((0, 1),)),), ONE, ONE), (("with", False, 1),)),
    (("not related", TO_NUM, (("a", NUM, NUM, ((0, 1),)),), ONE, ONE), (("with", 1, 1),)),
    (("not related", K("num | a"), SIGNS, ("right", 0), ("right", YES)), ("side",)),
    (("not related", K("a | num"), SIGNS, ("left", 0), ("left", YES)), ("side",)),
    (("not related", K("a | num"), SIGNS, ("right", 1), ("right", 1)), ("side",)),
    (("not related", K("num | a"), SIGNS, ("left", 1), ("left", 1)), ("side",)),
    (("kept", TWICE, TENS, ((1, 2),), ((10, 10),)), ()), (("kept", TWICE, TENS, ((1, 2),), ((10, 20), ())), ()),
    (("kept", TWICE, (), ((1, 2),), ((10, 20),)), ()), (("kept", TWICE, TENS, [(1, 2)], ((10, 20),)), ()),
    (("kept", T("fn f: num -> a. f(1)"), TENS, (ONE,), (ONE,)), ()),
    (("kept", T("fn f: a -> num. 3"), MANY, (ONE,), (ONE,)), ()), (("kept", ("name", "x"), TENS, (), ()), ()),
    (("kept", TWICE, TENS, (), ()), ()),
    (("turned", TWICE, TENS, ((1, 2),), (10, 20)), ()), (("turned", TWICE, SIGNS, ((0,),), (YES, YES)), ()),
    (("turned", TWICE, TENS, ((4,),), (4, 4)), ()), (("turned", TWICE, TENS, (), (10, 20)), ()),
    (("turned", TWICE, (), ((1, 2),), (10, 10, 20, 20)), ()), (("turned", ("number", 3), (), (), 3), ()),
    (("turned", T("fn f: a -> a. fn x: a. x"), TENS, (ONE, 1), 10), ()), (("turned", T("fn n: num. n"), (), (1,), True), ()),
    (("turned", TWICE, TENS, ([1, 2],), (10, 10, 20, 20)), ()), (("turned", TWICE, TENS, ((1, 2), 1), (10, 10, 20, 20)), ()),
    (("turned", T("fn x: a. fn y: a. x"), TENS, (1,), 10), ()),
    (("turned", T("fn x: a. nil(num -> num)"), TENS, (1,), ()), ()), (("turned", TWICE, TENS, ((1, 2),), [10, 10, 20, 20]), ()),
    (("turned", T("fn x: a. nil(b)"), TENS, (1,), ()), ()), (("turned", TWICE, TENS, ((True,),), (10, 10)), ()),
    (("promise", ROWS, BENT_PROMISE), ()), (("promise", ROWS, PROMISE + (0,)), ()), (("promise", ROWS, list(PROMISE)), ()),
    (("promise", ROWS, promise_of(K("list b -> list b"))), ()), (("promise", SEVEN, ("same", ("one",), ("two",))), ()),
    (("promise", NUM, ("same", ("one",), ("one",))), ()),
    (("promise", ROWS, PROMISE[:1] + (2,) + PROMISE[2:]), ()),
    (("promise", K("num -> num"), ("same", ("one",), ("two",), 3)), ()),
    (("promise", K("list a"), ("each", 2, ("one",), ("two",), ("by", "a", ("x", 1), ("y", 1)))), ()),
    (("promise", K("list a"), ("each", 1, ("one",), ("two",), ("by", "a", ("x", True), ("y", 1)))), ()),
    (("promise", K("list a"), ("each", 1, ("one",), ("two",), ("by", "a", ("x", 1), ("x", 1)))), ()),
    (("promise", ("num", NUM), ("same", ("one",), ("two",))), ()), (("promise", NUM, ("same", ("one",), ("two",), ())), ()),
    (("promise", NUM, ()), ()), (("promise", A, ("by", "b", ("one",), ("two",))), ()),
)


def odd_without_numbers():
    """Odd things, but for whole numbers and tuples of these."""
    def is_plain(thing):
        return isinstance(thing, int) and not isinstance(thing, bool)

    return [thing for thing in odd_things() if not is_plain(thing) and not (isinstance(thing,
        tuple) and all(is_plain(part) for part in thing))]


class TestRows(unittest.TestCase):
    def test_good_claims_are_accepted_with_their_papers(self):
        for claim, paper in GOOD:
            with self.subTest(claim, paper=paper):
                before = copy.deepcopy((claim, paper))
                self.assertIs(accepts(claim, paper), True)
                self.assertIs(accepts(paper=paper, claim=claim), True)
                self.assertEqual((claim, paper), before)
        self.assertEqual({claim[0] for claim, _ in GOOD}, set(WORDS))

    def test_wrong_claims_and_wrong_papers_are_not(self):
        for claim, paper in WRONG:
            with self.subTest(claim, paper=paper):
                self.assertIs(accepts(claim, paper), False)
                self.assertIs(accepts(paper=paper, claim=claim), False)
        self.assertEqual({claim[0] for claim, _ in WRONG}, set(WORDS))

    def test_claims_of_just_the_elements_told(self):
        for claim, paper in GOOD:
            for other in (claim[:-1], claim + ((),), claim + (claim[-1],), claim[1:], list(claim), (claim,), (claim[0],),
                ("so",) + claim[1:], (None,) + claim[1:], (claim[0] + " ",) + claim[1:], ([claim[0]],) + claim[1:]):
                self.assertIs(accepts(other, paper), False, other)
            for word in WORDS:
                # Those of first programs are claims of tested ones, too, and a unit may be a kind and a program.
                if word != claim[0] and (word, claim[0]) not in (("alike", "tested alike"),
                    ("tested alike", "alike")) and claim[1] != UNIT:
                    self.assertIs(accepts((word,) + claim[1:], paper), False, (word, claim))

    def test_papers_of_any_kind(self):
        for claim, paper in GOOD:
            if paper == ():
                for thing in odd_things() + [None, [], "", 0, False, ((),), ((), ()), {}, b""]:
                    if thing != ():
                        self.assertIs(accepts(claim, thing), False, (claim, thing))
            else:
                self.assertIs(accepts(claim, list(paper)), False)
                self.assertIs(accepts(claim, None), False)
                self.assertIs(accepts(claim, [paper]), False)
                if claim[0] != "some tells":
                    self.assertIs(accepts(claim, paper + (0,)), False)

    def test_odd_papers(self):
        seen = set()
        for claim, paper in GOOD:
            if paper != () and claim[0] not in seen:
                seen.add(claim[0])
                for thing in odd_without_numbers():
                    self.assertIs(accepts(claim, thing), False, (claim, thing))
                    self.assertIs(accepts(claim, (thing,)), False)
                    self.assertIs(accepts(claim, paper[:-1] + (thing,)), False)

    def test_claims_of_any_kind(self):
        for thing in odd_things():
            for paper in ((), thing):
                self.assertIs(accepts(thing, paper), False)
                self.assertIs(accepts((thing,), paper), False)
            for word in WORDS:
                for many in range(1, 6):
                    if word in ("kind", "no kind", "promise") and thing == ("unit",):
                        continue
                    self.assertIs(accepts((word,) + (thing,) * many, ()), False, (word, thing))

    def test_one_element_of_any_kind(self):
        seen = {}
        for claim, paper in GOOD:
            seen.setdefault(claim[0], (claim, paper))
        for claim, paper in seen.values():
            for at in range(1, len(claim)):
                for thing in odd_without_numbers():
                    # ((),) is a shape, too.
                    if thing == claim[at] or thing == ((),):
                        continue
                    self.assertIs(accepts(claim[:at] + (thing,) + claim[at + 1:], paper), False, (claim, at, thing))


    def test_things_that_are_equal_to_all(self):
        class Equal:
            __hash__ = None

            def __eq__(self, other):
                return True

        for claim, paper in GOOD:
            for at in range(len(claim)):
                self.assertIs(accepts(claim[:at] + (Equal(),) + claim[at + 1:], paper), False, (claim, at))
            self.assertIs(accepts(claim, Equal()), False)
            self.assertIs(accepts(claim, (Equal(),)), False)
        for claim in (("promise", NUM, ("same", (Equal(),), ("two",))), ("promise", NUM, (Equal(), ("one",), ("two",))),
            ("promise", NUM, ("same", Equal(), ("two",))), ("kind", ("number", 3), (Equal(),)),
                      ("tells", SAME, (AS_NUM, ((1,),), (Equal(),))), ("table", SAME, (((),),), (Equal(),)),
                      ("promise", K("list a"), ("each", Equal(), ("one",), ("two",), ("by", "a", ("x", 1), ("y", 1))))):
            self.assertIs(accepts(claim, ()), False)

    def test_kinds_6_and_7_deep_in_promises(self):
        six = SEVEN[1]
        self.assertIs(accepts(("promise", six, promise_of(six)), ()), True)
        self.assertIs(accepts(("promise", SEVEN, promise_of(six)), ()), False)


class TestExclusion(unittest.TestCase):
    def one_of(self, claim, opposite, papers):
        """Of the two just one is accepted with one of the papers; it is told whether it is the first one."""
        first = any(accepts(claim, paper) for paper in papers)
        second = any(accepts(opposite, paper) for paper in papers)
        self.assertIsNot(first, second, claim)
        return first

    def test_kind_and_no_kind(self):
        for term in (SAME, ("name", "x"), ("number", 3), T("fn x: a. x + 1"), T("cons(1, nil(unit))"), T("case 1 {x. 1; y. 2}")):
            kinds = [NUM, ROWS, K("a -> num"), K("list unit")]
            claims = [("kind", term, kind) for kind in kinds] + [("no kind", term)]
            self.assertEqual(sum(accepts(claim, ()) for claim in claims), 1)

    def test_tells_and_tells_not(self):
        counts = [0, 0]
        for program, row, answer in itertools.product((SAME, BACK, TWICE), ((), (1,), (1, 2), (2, 2)),
            ((), (1,), (1, 1), (1, 2), (2, 1), (2, 2))):
            run = (AS_NUM, (row,), answer)
            holds = self.one_of(("tells", program, run), ("tells not", program, run), [()])
            self.assertIs(holds, told(program, AS_NUM, (row,)) == answer)
            counts[holds] += 1
        self.assertGreater(min(counts), 5)

    def test_in_order_and_out_of_order(self):
        for program, length in itertools.product((UNPUT, PUT_TWO), range(5)):
            papers = [()] + list(itertools.product((0, 1, 2), repeat=length))
            self.assertIs(self.one_of(("in order", program, length), ("out of order", program, length), papers),
                length < (2 if program == UNPUT else 3))

    def test_related_and_each_way(self):
        counts = [0, 0]
        kinds = ("(a, num)", "list (a | num)", "a -> num", "a -> b -> list a", "(a | b) -> (num, b)", "list (a -> a)",
            "a -> a | (b -> num)")
        for text, number in itertools.product(kinds, range(1, 40)):
            kind, relation = K(text), relation_from(number * 7)
            seed = number * number * 7919 + (number ** 9 << 12)
            one, two = closed_thing(kind, ones_of(relation), seed), closed_thing(kind, twos_of(relation),
                seed if number % 3 else seed // 5)
            means = [meant(thing) if "fun" in str(kind) else thing for thing in (one, two)]
            try:
                first = way_apart(kind, relation, one, two)
            except ValueError:
                continue
            ways = all_ways(kind, pairs_of(relation), *means)
            claim = ("not related", kind, relation, one, two)
            self.assertIs(accepts(("related", kind, relation, one, two), ()), first is None)
            for way in ways:
                self.assertTrue(accepts(claim, way), (claim, way))
            # No step more, none less, none other is a way.
            steps = [0, 1, "first", "second", "side", ("with", (), ())] + [step for way in ways for step in way]
            for way in [()] + ways:
                for other in [way[:-1], way + ("first",)] + [way + (step,) for step in steps] + [way[:-1] + (step,
                    ) for step in steps]:
                    self.assertIs(accepts(claim, other), other in ways, (claim, other))
            counts[first is None] += 1
        self.assertGreater(min(counts), 40)


if __name__ == "__main__":
    unittest.main()

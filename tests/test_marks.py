"""Points 4, 5, 6, D1, D2 and D3: first and tested kinds, places, shapes, marks, and tables."""

import copy
import itertools
import unittest

from bykindalone.errors import InvalidArguments, InvalidFilling, InvalidKind, InvalidShape, InvalidTable, InvalidTerm
from bykindalone.errors import InvalidThings, InvalidValue, NotFirst, UnlikeKinds, WrongTerm
from bykindalone.kinds import is_kind
from bykindalone.marks import alike_at, by_table, is_first, is_tested, laid, marked, places, shape_of, table_of
from bykindalone.meaning import told
from bykindalone.terms import is_written
from bykindalone.text import read_kind, read_term
from kinded import program_of
from made import kind_from, value_from
from meant import UNITS, given, meant, numbered, replaced, row_of, spots, variables_in, with_kind
from things import A, B, C, NUM, UNIT, chain, odd_things

T, K = read_term, read_kind
AS_NUM, AS_UNIT = (("a", NUM),), (("a", UNIT),)
TWICE = T("fn l: list a. fold(fn x: a. fn r: list a. cons(x, cons(x, r)), nil(a), l)")
SAME = T("fn l: list a. l")
MIXED = T("fn p: (a, b | num). fn l: list (b, a). cons(first(p), fold(fn q: (b, a). fn r: list a. cons(second(q), r), nil(a), l))")
MIXED_SHAPE = (("pair", (), ("left", ())), (("pair", (), ()), ("pair", (), ())))

FIRST = (
    "a -> a", "num -> num", "unit -> list (a, b)", "a -> b -> c -> a -> b -> c -> num", "list (a | num) -> (a, num) | unit",
    "(a, b) -> (b, a)", "a -> unit | unit", "num -> num -> num -> num -> num -> num -> num",
)
TESTED = (
    "(a -> unit | unit) -> a", "(a -> a -> unit | unit) -> list a -> list a", "a -> (b -> c -> unit | unit) -> b",
    "(a -> unit | unit) -> (b -> unit | unit) -> (c -> unit | unit) -> (a -> unit | unit) -> a -> b -> num",
    "(c -> unit | unit) -> num", "a -> (a -> b -> unit | unit) -> unit | unit",
)
NEITHER = (
    "a", "num", "list (a -> a)", "(a, b)", "a | b", "unit", "list a", "(a -> a, num)",
    "a -> b -> c -> a -> b -> c -> a -> num", "(a -> unit | unit) -> a -> b -> c -> a -> b -> c -> num",
    "(a -> a) -> a", "(num -> unit | unit) -> num", "(a -> num) -> a", "(a -> unit) -> a", "(a -> a -> num) -> a",
    "(a -> b -> c -> unit | unit) -> a", "(list a -> unit | unit) -> a", "(a -> num -> unit | unit) -> a",
    "(num -> a -> unit | unit) -> a",
    "((a, a) -> unit | unit) -> a", "(a -> unit | num) -> a", "(a -> num | unit) -> a", "(a -> (unit | unit) | unit) -> a",
    "(a, b -> unit | unit) -> a", "a | (b -> unit | unit) -> a", "a -> list (a -> a)", "(a -> a, num) -> a", "a -> (num, a -> a)",
    "list (a -> unit | unit) -> a", "(a -> unit | unit, a) -> a",
    "((a -> unit | unit) -> unit | unit) -> a", "(a -> list (unit | unit)) -> a", "(a -> unit | unit) -> list (a -> unit | unit)",
)


def is_first_again(kind):
    asked, left = row_of(kind)
    return 0 < len(asked) < 7 and all("fun" not in str(part) for part in asked + [left])


TESTS = [K(f"{x} -> unit | unit") for x in "abc"] + [K(f"{x} -> {y} -> unit | unit") for x in "abc" for y in "abc"]


def is_tested_again(kind):
    asked, left = row_of(kind)
    return 0 < len(asked) < 7 and all("fun" not in str(part) or part in TESTS for part in asked) and "fun" not in str(left)


class TestKinds(unittest.TestCase):
    def test_each_row(self):
        for texts, first, tested in ((FIRST, True, True), (TESTED, False, True), (NEITHER, False, False)):
            for text in texts:
                with self.subTest(text):
                    self.assertIs(is_first(K(text)), first)
                    self.assertIs(is_tested(K(text)), tested)
                    self.assertIs(is_first(kind=K(text)), first)
                    self.assertIs(is_tested(kind=K(text)), tested)

    def test_counted_kinds(self):
        bases = (A, NUM, UNIT, B, ("either", UNIT, UNIT), K("a -> unit | unit"), K("b -> a -> unit | unit"))
        counts = [0, 0]
        for number in range(20000):
            kind = kind_from(number, bases, ("fun", "list", "fun", "pair", "fun"))
            self.assertIs(is_first(kind), is_first_again(kind), kind)
            self.assertIs(is_tested(kind), is_tested_again(kind), kind)
            counts[0] += is_first(kind)
            counts[1] += is_tested(kind)
        self.assertGreater(counts[0], 1000)
        self.assertGreater(counts[1], counts[0] + 200)

    def test_kinds_of_many_arguments(self):
        for many in range(0, 12):
            kind = chain(lambda part: ("fun", A, part), NUM, many + 1)
            self.assertIs(is_first(kind), 1 <= many <= 6)
            self.assertIs(is_tested(kind), 1 <= many <= 6)
            tests = chain(lambda part: ("fun", K("a -> unit | unit"), part), NUM, many + 1)
            self.assertIs(is_first(tests), False)
            self.assertIs(is_tested(tests), 1 <= many <= 6)
        deep = ("fun", chain(lambda part: ("list", part), A, 99), NUM)
        self.assertTrue(is_first(deep) and is_tested(deep))

    def test_no_kinds(self):
        odd = [thing for thing in odd_things() if not is_kind(thing)] + [("fun", ("list", deep_kind()), NUM)]
        for ask, thing in itertools.product((is_first, is_tested, lambda kind: places(kind, ())), odd):
            with self.assertRaises(InvalidKind) as caught:
                ask(kind=thing)
            self.assertIs(caught.exception.given, thing)


def deep_kind():
    return chain(lambda part: ("list", part), NUM, 100)


class TestPlaces(unittest.TestCase):
    def test_each_row(self):
        rows = (
            ("a", (), (("a", 1),)), ("num", 5, ()), ("unit", (), ()), ("(a, list a)", ("pair", (), ((), ())), (("a", 3),)),
            ("(b, a)", ("pair", (), ()), (("a", 1), ("b", 1))), ("a | b", ("left", ()), (("a", 1), ("b", 0))),
            ("a | b", ("right", ()), (("a", 0), ("b", 1))), ("list c", (), (("c", 0),)), ("list c", ((), (), ()), (("c", 3),)),
            ("list (num, (c | unit))", (("pair", 1, ("left", ())), ("pair", 2, ("right", ())), ("pair", 3, ("left", ()))),
                (("c", 2),)),
            ("list (list (a, c))", ((), (("pair", (), ()), ("pair", (), ()))), (("a", 2), ("c", 2))),
            ("(list unit, b)", ("pair", ((), ()), ()), (("b", 1),)),
        )
        for text, value, found in rows:
            self.assertEqual(places(K(text), value), found)
            self.assertEqual(places(value=value, kind=K(text)), found)

    def test_counted_values(self):
        for number in range(3000):
            kind = kind_from(number, (A, NUM, UNIT, B, C), ("list", "pair", "either"))
            value = value_from(with_kind(kind, UNITS), number * 7919 + 5)
            found = spots(kind, value)
            self.assertEqual(places(kind, value), tuple(
                (var, sum(var == other for other, _ in found)) for var in sorted(variables_in(kind))))

    def test_deep_kinds(self):
        kind = chain(lambda part: ("list", part), A, 100)
        value = chain(lambda part: (part,), (), 100)
        self.assertEqual(places(kind, value), (("a", 1),))
        pairs = chain(lambda part: ("pair", part, A), A, 100)
        self.assertEqual(places(pairs, chain(lambda part: ("pair", part, ()), (), 100)), (("a", 100),))

    def test_kinds_that_are_none_of_data(self):
        for text in ("a -> a", "list (a -> a)", "(a, num -> num)", "num | (a -> unit | unit)"):
            with self.assertRaises(InvalidKind) as caught:
                places(K(text), None)
            self.assertEqual(caught.exception.given, K(text))

    def test_no_values(self):
        for text, value in (("a", 0), ("a", True), ("(a, b)", ((), ())), ("a | b", ("left", 3)), ("list a", [()]),
            ("list a", (0,)), ("num", ()), ("num", True)):
            with self.assertRaises(InvalidValue) as caught:
                places(K(text), value)
            self.assertIs(caught.exception.given, value)
        for thing in odd_things():
            if thing != ():
                with self.assertRaises(InvalidValue) as caught:
                    places(A, thing)
                self.assertIs(caught.exception.given, thing)


class TestShapes(unittest.TestCase):
    def test_shapes_of_arguments(self):
        rows = (
            (TWICE, AS_NUM, ((5, 7),), (((), ()),)), (TWICE, AS_NUM, ((),), ((),)),
            (TWICE, (("a", ("list", NUM)),), (((5, 7), ()),), (((), ()),)),
            (SAME, AS_UNIT, (((), (), ()),), (((), (), ()),)),
            (MIXED, (("a", NUM), ("b", ("pair", NUM, UNIT))),
                (("pair", 3, ("left", ("pair", 1, ()))), (("pair", ("pair", 2, ()), 4),)),
             (("pair", (), ("left", ())), (("pair", (), ()),))),
            (MIXED, (("a", NUM), ("b", UNIT)), (("pair", 3, ("right", -8)), ()), (("pair", (), ("right", -8)), ())),
            (T("fn n: num. fn l: list num. n"), (), (4, (5, 6)), (4, (5, 6))),
            (T("fn x: a. fn e: a | num. (e, nil(b))"), AS_NUM, (4, ("left", 5)), ((), ("left", ()))),
            (T("fn x: num. fn e: unit | num. nil(b)"), (), (4, ("right", 5)), (4, ("right", 5))),
        )
        for program, filling, arguments, shape in rows:
            self.assertEqual(shape_of(program, filling, arguments), shape)
            self.assertEqual(shape_of(arguments=arguments, program=program, filling=filling), shape)

    def test_marked_arguments(self):
        rows = (
            (TWICE, (((), ()),), ((0, 1),)), (TWICE, ((),), ((),)), (SAME, (((),) * 5,), ((0, 1, 2, 3, 4),)),
            (MIXED, MIXED_SHAPE, (("pair", 0, ("left", 0)), (("pair", 1, 1), ("pair", 2, 2)))),
            (MIXED, (("pair", (), ("right", 7)), (("pair", (), ()),)), (("pair", 0, ("right", 7)), (("pair", 0, 1),))),
            (T("fn x: b. fn y: c. fn z: b. x"), ((), (), ()), (0, 0, 1)), (T("fn n: num. n"), (5,), (5,)),
            (T("fn p: (c, (a, c)). p"), (("pair", (), ("pair", (), ())),), (("pair", 0, ("pair", 0, 1)),)),
        )
        for program, shape, arguments in rows:
            self.assertEqual(marked(program, shape), arguments)
            self.assertEqual(marked(shape=shape, program=program), arguments)

    def test_laid_arguments(self):
        filling = (("a", NUM), ("b", ("list", UNIT)))
        rows = (
            (SAME, (((), ()),), AS_NUM, (("a", (5, 5)),), ((5, 5),)), (SAME, ((),), AS_NUM, (("a", ()),), ((),)),
            (SAME, (((), ()),), (("a", ("list", NUM)),), (("a", ((1,), ())),), (((1,), ()),)),
            (MIXED, MIXED_SHAPE, filling, (("a", (7, 8, 7)), ("b", ((), ((),), ((), ())))),
             (("pair", 7, ("left", ())), (("pair", ((),), 8), ("pair", ((), ()), 7)))),
            (MIXED, (("pair", (), ("right", 9)), ()), filling, (("a", (-1,)), ("b", ())), (("pair", -1, ("right", 9)), ())),
            (T("fn n: num. n"), (5,), (), (), (5,)), (T("fn n: num. nil(c)"), (5,), (("c", NUM),), (), (5,)),
            (T("fn x: a. fn y: c. fn z: a. y"), ((), (), ()), (("a", NUM), ("b", NUM), ("c", UNIT)),
                (("a", (1, 2)), ("c", ((),))), (1, (), 2)),
        )
        for program, shape, filling, things, arguments in rows:
            self.assertEqual(laid(program, shape, filling, things), arguments)
            self.assertEqual(laid(things=things, filling=filling, shape=shape, program=program), arguments)

    def test_tables(self):
        rows = (
            (TWICE, (((), ()),), (0, 0, 1, 1)), (TWICE, ((),), ()), (MIXED, MIXED_SHAPE, (0, 1, 2)),
            (T("fn p: (a, b). (second(p), first(p))"), (("pair", (), ()),), ("pair", 0, 0)),
            (T("fn n: num. fn x: a. n + 1"), (5, ()), 6),
            (T("fn n: num. fn l: list a. (n, l)"), (5, ((), ())), ("pair", 5, (0, 1))), (T("fn x: a. nil(b)"), ((),), ()),
            (T("fn e: a | a. case e {x. left(x, num); y. right(a, 4)}"), (("left", ()),), ("left", 0)),
            (T("fn e: a | a. case e {x. left(x, num); y. right(a, 4)}"), (("right", ()),), ("right", 4)),
            (T("fn u: a. fn v: b. fn w: a. fn x: b. fn y: a. fn z: b. (z, (y, (x, (w, (v, u)))))"), ((),) * 6,
             ("pair", 2, ("pair", 2, ("pair", 1, ("pair", 1, ("pair", 0, 0)))))),
        )
        for program, shape, table in rows:
            self.assertEqual(table_of(program, shape), table)
            self.assertEqual(table_of(shape=shape, program=program), table)

    def test_things_by_tables(self):
        filling = (("a", NUM), ("b", UNIT))
        things = (("a", (7, 8, 7)), ("b", ((), (), ())))
        rows = (
            (TWICE, (((), ()),), (0, 0, 1, 1), AS_NUM, (("a", (5, 7)),), (5, 5, 7, 7)),
            (SAME, (((), ()),), (1,), AS_NUM, (("a", (5, 7)),), (7,)),
            (SAME, ((),), (), AS_NUM, (("a", ()),), ()), (SAME, (((), ()),), (), AS_UNIT, (("a", ((), ())),), ()),
            (MIXED, MIXED_SHAPE, (2, 1, 0, 0), filling, things, (7, 8, 7, 7)),
            (T("fn n: num. fn x: a. (n, x)"), (5, ()), ("pair", 99, 0), (("a", ("list", NUM)),), (("a", ((1, 2),)),),
                ("pair", 99, (1, 2))),
            (T("fn x: a. fn y: b. (y, (x, nil(c)))"), ((), ()), ("pair", 0, ("pair", 0, ())),
                (("a", NUM), ("b", UNIT), ("c", NUM)),
             (("a", (4,)), ("b", ((),))), ("pair", (), ("pair", 4, ()))),
        )
        for program, shape, table, filling, things, answer in rows:
            self.assertEqual(by_table(program, shape, table, filling, things), answer)
            self.assertEqual(by_table(things=things, filling=filling, table=table, shape=shape, program=program), answer)

    def test_programs_alike_at_a_shape(self):
        back = T("fn l: list a. fold(fn x: a. fn f: list a -> list a. fn r: list a. f(cons(x, r)), fn r: list a. r, l)(nil(a))")
        for shape, alike in ((((),), True), ((((),),), True), ((((), ()),), False), ((((), (), ()),), False)):
            self.assertIs(alike_at(SAME, back, shape), alike)
            self.assertIs(alike_at(shape=shape, two=SAME, one=back), alike)
            self.assertIs(alike_at(back, back, shape), True)
        one, two = T("fn n: num. fn x: a. fn y: a. case n < 3 {u. x; u. y}"), T("fn n: num. fn x: a. fn y: a. case 2 < n {u. y; u. x}")
        other = T("fn n: num. fn x: a. fn y: a. case n < 2 {u. x; u. y}")
        for number in range(-2, 8):
            self.assertIs(alike_at(one, two, (number, (), ())), True)
            self.assertIs(alike_at(one, other, (number, (), ())), number != 2)


class TestTablesTellAll(unittest.TestCase):
    KINDS = (
        "a", "(a, b)", "list a", "list a -> list a", "num -> list a -> list (a, num)",
        "(a, b) -> list a -> list b -> list (a | b)",
        "a | num -> unit -> (a | list num)", "list (list c) -> list c", "list (a, c) -> a | c -> (list c, list (b | a))",
    )
    FILLINGS = (
        (("a", NUM), ("b", NUM), ("c", NUM)), (("a", UNIT), ("b", ("list", NUM)), ("c", ("either", NUM, UNIT))),
        (("a", ("pair", NUM, ("list", UNIT))), ("b", UNIT), ("c", ("list", ("list", NUM)))),
    )

    def test_the_answer_is_the_table_at_the_shape_with_the_things_in_the_place_of_the_marks(self):
        ran = 0
        for text in self.KINDS:
            kind = ("fun", A, ("fun", B, ("fun", C, K(text))))
            asked, left = row_of(kind)
            for number in range(1, 100):
                program = program_of(kind[2][2][2], number * number * 7919 + (number ** 9 << 20), 5)
                if not is_written(program):
                    continue
                shape = tuple(value_from(with_kind(part, UNITS), number * 13 + at) for at, part in enumerate(asked))
                table = table_of(program, shape)
                at_marks = numbered(asked, shape)
                self.assertEqual(marked(program, shape), at_marks)
                self.assertEqual(table, given(meant(program), at_marks))
                for filling in self.FILLINGS:
                    self.check(program, kind, shape, table, filling, number)
                    ran += 1
        self.assertGreater(ran, 2000)

    def check(self, program, kind, shape, table, filling, number):
        asked, left = row_of(kind)
        found = [var for part, value in zip(asked, shape) for var, _ in spots(part, value)]
        rows = {var: tuple(value_from(worth, number * 3 + at) for at in range(found.count(var))) for var, worth in filling}
        things = tuple((var, rows[var]) for var, _ in filling)
        arguments = laid(program, shape, filling, things)
        at_marks = numbered(asked, shape)
        self.assertEqual(arguments, tuple(
            replaced(part, value, lambda var, mark: rows[var][mark]) for part, value in zip(asked, at_marks)))
        self.assertEqual(shape_of(program, filling, arguments), shape)
        answer = told(program, filling, arguments)
        self.assertEqual(by_table(program, shape, table, filling, things), answer)
        self.assertEqual(answer, replaced(left, table, lambda var, mark: rows[var][mark]))

    def test_programs_are_alike_exactly_if_their_tables_are(self):
        kind = K("list a -> (list a, num)")
        programs = [program_of(kind, number * number * 7919 + (number ** 9 << 20), 4) for number in range(1, 200)]
        programs = [program for program in programs if is_written(program)]
        counts = [0, 0]
        for one, two in zip(programs, programs[1:] + programs[:1]):
            for shape in (((), (), (), ()), ((), (), (), ((), ()))):
                alike = alike_at(one, two, shape)
                self.assertIs(alike, table_of(one, shape) == table_of(two, shape))
                filling = (("a", NUM), ("b", NUM), ("c", NUM))
                at_marks = marked(one, shape)
                self.assertIs(alike, told(one, filling, at_marks) == told(two, filling, at_marks))
                counts[alike] += 1
        self.assertGreater(min(counts), 20)


class TestErrors(unittest.TestCase):
    WRONG_PROGRAMS = (
        (("fn",), InvalidTerm, ()), (("fn", "x", A, ("name", "let")), InvalidTerm, (3, 1)), (("name", "x"), WrongTerm, ()),
        (T("fn x: a. x + 1"), WrongTerm, (3, 1)), (T("3"), NotFirst, NUM), (T("nil(a)"), NotFirst, ("list", A)),
        (T("fn f: a -> unit | unit. fn x: a. x"), NotFirst, K("(a -> unit | unit) -> a -> a")),
        (T("fn s: a. fn t: a. fn u: a. fn v: a. fn w: a. fn x: a. fn y: a. x"), NotFirst,
            K("a -> a -> a -> a -> a -> a -> a -> a")),
        (chain(lambda part: ("minus", part), ("number", 1), 17), InvalidTerm, (1,) * 16), (None, InvalidTerm, ()),
    )

    def raises(self, error, kept, ask, **told):
        names = {
            shape_of: ("program", "filling", "arguments"), marked: ("program", "shape"),
            laid: ("program", "shape", "filling", "things"),
            table_of: ("program", "shape"), by_table: ("program", "shape", "table", "filling", "things"),
            alike_at: ("one", "two", "shape"),
        }[ask]
        for run in (lambda: ask(**told), lambda: ask(*[told[name] for name in names])):
            with self.assertRaises(error) as caught:
                run()
            self.assertIs(type(caught.exception), error)
            self.assertEqual(list(vars(caught.exception).values()), kept)

    def test_programs(self):
        for program, error, kept in self.WRONG_PROGRAMS:
            self.raises(error, [kept], shape_of, program=program, filling=None, arguments=None)
            self.raises(error, [kept], marked, program=program, shape=None)
            self.raises(error, [kept], laid, program=program, shape=None, filling=None, things=None)
            self.raises(error, [kept], table_of, program=program, shape=None)
            self.raises(error, [kept], by_table, program=program, shape=None, table=None, filling=None, things=None)
            self.raises(error, [kept], alike_at, one=program, two=None, shape=None)
            self.raises(error, [kept], alike_at, one=SAME, two=program, shape=None)

    def test_shapes(self):
        two = T("fn x: a. fn e: (num | a). e")
        rows = (
            (None, None), ([(), ("left", 1)], None), (((),), None), (((), ("left", 1), ()), None), ((), None), ("", None),
            (5, None),
            ((0, ("left", 1)), 0), ((0, 0), 0), (((), ("left", ())), 1), (((), ("right", 1)), 1), (((), ["right", ()]), 1),
            (((), ("left", True)), 1),
            ((("test", 1), ("left", 1)), 0), (([], ("left", 1)), 0),
        )
        for shape, index in rows:
            self.raises(InvalidShape, [index], marked, program=two, shape=shape)
            self.raises(InvalidShape, [index], table_of, program=two, shape=shape)
            self.raises(InvalidShape, [index], laid, program=two, shape=shape, filling=(("d", 0),), things=None)
            self.raises(InvalidShape, [index], by_table, program=two, shape=shape, table=None, filling=None, things=None)
            self.raises(InvalidShape, [index], alike_at, one=two, two=SAME, shape=shape)
            self.raises(InvalidShape, [index], alike_at, one=two, two=two, shape=shape)
        for thing in odd_things():
            if thing != ():
                self.raises(InvalidShape, [0], marked, program=two, shape=(thing, thing))
            self.raises(InvalidShape, [1], marked, program=two, shape=((), thing))
            if not isinstance(thing, tuple):
                self.raises(InvalidShape, [None], marked, program=two, shape=thing)

    def test_fillings(self):
        program = T("fn x: a. fn y: b. (x, nil(c))")
        shape, things, table = ((), ()), (("a", (1,)), ("b", (2,))), ("pair", 0, ())
        good = (("a", NUM), ("b", NUM), ("c", NUM))
        self.assertEqual(by_table(program, shape, table, good, things), ("pair", 1, ()))
        rows = (
            (None, None), ([], None), ((), None), (good[:2], None), (good[1:], None), ((good[0], good[2]), None),
            (good + good, 3),
            ((good[1], good[0]), 1), ((("a", A),), 0), ((("a", NUM), ("b", ("fun", NUM, NUM)), ("c", NUM)), 1),
            ((("a", NUM), None), 1), (("a",), 0),
        )
        for filling, index in rows:
            self.raises(InvalidFilling, [index], laid, program=program, shape=shape, filling=filling, things=None)
            self.raises(InvalidFilling, [index], by_table, program=program, shape=shape, table=table, filling=filling,
                things=None)
        for filling, index in ((None, None), ([], None), ((None,), 0), (good + good, 3), ((good[1], good[0]), 1)):
            self.raises(InvalidFilling, [index], shape_of, program=program, filling=filling, arguments=None)

    def test_arguments(self):
        program = T("fn x: a. fn y: (b | num). (x, nil(c))")
        filling = (("a", NUM), ("b", UNIT))
        self.assertEqual(shape_of(program, filling, (3, ("right", 4))), ((), ("right", 4)))
        self.assertEqual(shape_of(program, filling + (("c", NUM),), (3, ("left", ()))), ((), ("left", ())))
        rows = (
            (None, None), ([3, ("right", 4)], None), ((), None), ((3,), None), ((None,), None), ("33", None),
            ((3, ("right", 4), 3), 2), ((True, ("right", 4)), 0),
            ((True, ("right", ()), 4), 0), ((3, ("right", ())), 1), ((3, ("left", 3)), 1), ((3, ("right", ()), 4), 1),
            (((), ("left", ())), 0),
        )
        for arguments, index in rows:
            self.raises(InvalidArguments, [index], shape_of, program=program, filling=filling, arguments=arguments)
        self.raises(InvalidArguments, [0], shape_of, program=program, filling=(("b", UNIT),), arguments=(3, ("right", 4)))
        self.raises(InvalidArguments, [1], shape_of, program=program, filling=(("a", NUM),), arguments=(3, ("right", 4)))
        for thing in odd_things():
            self.raises(InvalidArguments, [1], shape_of, program=program, filling=filling, arguments=(3, thing))

    def test_things(self):
        program = T("fn x: a. fn l: list c. fn y: a. (x, nil(b))")
        shape, filling = ((), ((), ()), ()), (("a", NUM), ("b", NUM), ("c", UNIT))
        good, table = (("a", (3, 3)), ("c", ((), ()))), ("pair", 1, ())
        self.assertEqual(by_table(program, shape, table, filling, good), ("pair", 3, ()))
        rows = (
            (None, None), (list(good), None), ((), None), (good[:1], None), (good + (("b", ()),), None), ({}, None), ("ac", None),
            ((("a", (3,)), good[1]), 0), ((("a", (3, 3, 3)), good[1]), 0), ((("a", [3, 3]), good[1]), 0),
            ((("a", (3, True)), None), 0), ((("b", (3, 3)), good[1]), 0),
            ((good[1], good[0]), 0), ((good[0], good[0]), 1), ((good[0], ("b", ((), ()))), 1), ((good[0], ("c", ((), 0))), 1),
            ((good[0], ("c", ((),))), 1),
            ((good[0], ["c", ((), ())]), 1), ((good[0], ("c", ((), ()), ())), 1), ((good[0], ("c",)), 1), ((good[0], None), 1),
            ((True, True), 0),
        )
        for things, index in rows:
            self.raises(InvalidThings, [index], laid, program=program, shape=shape, filling=filling, things=things)
            self.raises(InvalidThings, [index], by_table, program=program, shape=shape, table=table, filling=filling,
                things=things)
        for thing in odd_things():
            self.raises(InvalidThings, [1], laid, program=program, shape=shape, filling=filling, things=(good[0], thing))
            self.raises(InvalidThings, [0], laid, program=program, shape=shape, filling=filling, things=(("a", thing), good[1]))
            if thing != "a":
                self.raises(InvalidThings, [0], laid, program=program, shape=shape, filling=filling,
                    things=((thing, (3, 3)), good[1]))
            if not isinstance(thing, tuple):
                self.raises(InvalidThings, [None], laid, program=program, shape=shape, filling=filling, things=thing)

    def test_things_of_deep_kinds(self):
        kind, value = deep_kind(), chain(lambda part: (part,), (), 99)
        program, filling = T("fn x: a. x"), (("a", kind),)
        self.assertEqual(laid(program, ((),), filling, (("a", (value,)),)), (value,))
        self.assertEqual(by_table(program, ((),), 0, filling, (("a", (value,)),)), value)
        self.assertEqual(told(program, filling, (value,)), value)

    def test_tables(self):
        program = T("fn x: a. fn l: list b. (x, (nil(b), 3))")
        shape, filling, things = ((), ((), ())), (("a", NUM), ("b", NUM)), (("a", (7,)), ("b", (8, 9)))
        self.assertEqual(by_table(program, shape, ("pair", 0, ("pair", (1, 0), -5)), filling, things),
            ("pair", 7, ("pair", (9, 8), -5)))
        for table in (
            ("pair", 1, ("pair", (), 3)), ("pair", -1, ("pair", (), 3)), ("pair", 0, ("pair", (2,), 3)),
            ("pair", 0, ("pair", (0, 1, -1), 3)),
            ("pair", 0, ("pair", (0, True), 3)), ("pair", False, ("pair", (), 3)), ("pair", (), ("pair", (), 3)),
            ("pair", 0, ("pair", (), ())),
            ["pair", 0, ("pair", (), 3)], ("pair", 0, ((), 3)), None, 0, (),
        ):
            self.raises(InvalidTable, [table], by_table, program=program, shape=shape, table=table, filling=None, things=None)
        for thing in odd_things():
            with self.assertRaises(InvalidTable) as caught:
                by_table(program, shape, thing, filling, things)
            self.assertIs(caught.exception.given, thing)
        none = T("fn l: list a. l")
        self.raises(InvalidTable, [(0,)], by_table, program=none, shape=((),), table=(0,), filling=AS_NUM, things=(("a", ()),))

    def test_kinds_that_are_unlike(self):
        for other in (T("fn l: list b. l"), T("fn x: a. x"), T("fn l: list a. fn x: a. l")):
            self.raises(UnlikeKinds, [], alike_at, one=SAME, two=other, shape=((),))
        self.raises(InvalidShape, [0], alike_at, one=SAME, two=T("fn x: a. x"), shape=((0,),))
        self.raises(InvalidShape, [None], alike_at, one=SAME, two=T("fn x: a. fn y: a. x"), shape=((), ()))
        self.raises(UnlikeKinds, [], alike_at, one=T("fn x: a. x"), two=T("fn x: a. fn y: a. x"), shape=((),))

    def test_nothing_that_was_passed_is_changed(self):
        filling, things = (("a", NUM), ("b", UNIT)), (("a", (7, 8, 7)), ("b", ((), (), ())))
        told_here = (MIXED, MIXED_SHAPE, (0, 1, 2), filling, things)
        before = copy.deepcopy(told_here)
        for _ in range(2):
            self.assertEqual(by_table(*told_here), (7, 8, 7))
            self.assertEqual(table_of(MIXED, MIXED_SHAPE), (0, 1, 2))
            self.assertEqual(laid(MIXED, MIXED_SHAPE, filling, things)[0], ("pair", 7, ("left", ())))
        self.assertEqual(told_here, before)


if __name__ == "__main__":
    unittest.main()

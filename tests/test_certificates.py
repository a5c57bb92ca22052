"""Points 4, 5, 6, E1 and E2: claims with the papers that show them."""

import copy
import itertools
import unittest

from bykindalone.certificates import certify_alike, certify_kind, certify_none, certify_order, certify_related, certify_table
from bykindalone.certificates import certify_tests, certify_told
from bykindalone.checker import accepts
from bykindalone.errors import InvalidArguments, InvalidFilling, InvalidKind, InvalidNumber, InvalidRelation, InvalidRuns, InvalidShape
from bykindalone.errors import InvalidTerm, InvalidThing, NotData, NotFirst, NotPutting, NotTested, TooMany, UnlikeKinds, Unfilled, WrongTerm
from bykindalone.kinding import kind_of
from bykindalone.kinds import is_kind, variables_of
from bykindalone.marks import is_tested
from bykindalone.meaning import told
from bykindalone.relations import is_relation
from bykindalone.terms import is_written, wrong_place
from bykindalone.text import read_kind, read_term
from bykindalone.values import is_value
from kinded import program_of
from made import term_from, value_from
from meant import numbered, replaced, row_of, spots, with_kind
from related import closed_thing, ones_of, relation_from, twos_of
from things import A, B, C, NUM, UNIT, chain, odd_things

T, K = read_term, read_kind
YES, NO = ("left", ()), ("right", ())
AS_NUM, AS_UNIT = (("a", NUM),), (("a", UNIT),)
SAME = T("fn l: list a. l")
BACK = T("fn l: list a. fold(fn x: a. fn f: list a -> list a. fn r: list a. f(cons(x, r)), fn r: list a. r, l)(nil(a))")
TWICE = T("fn l: list a. fold(fn x: a. fn r: list a. cons(x, cons(x, r)), nil(a), l)")
MIXED = T("fn x: b. fn l: list a. fn y: b. (y, l)")
OTHER = T("fn x: b. fn l: list a. fn y: b. (x, l)")
ROWS = K("list a -> list a")
KEPT = T("fn t: a -> unit | unit. fn l: list a. fold(fn x: a. fn r: list a. case t(x) {u. cons(x, r); v. r}, nil(a), l)")
ALL = T("fn t: a -> unit | unit. fn l: list a. l")
UNPUT = T("fn p: (a, a) -> (a, a). fn l: list a. l")
TENS = (("a", NUM, NUM, ((1, 10), (2, 20), (3, 30))),)
TESTED = K("(a -> unit | unit) -> list a -> list a")
BELOW_TWO, ALWAYS = T("fn x: num. x < 2"), T("fn x: unit. left(x, unit)")
# Each beside its opposite: of the same things just one of both is accepted.
OPPOSITES = {
    "alike": "unlike", "tested alike": "tested unlike", "in order": "out of order", "related": "not related",
    "tells": "tells not", "table": "no table",
}
OPPOSITES.update({last: first for first, last in OPPOSITES.items()})


class Certificates(unittest.TestCase):
    def check(self, pair, claim, paper):
        """The pair is this one; it is accepted, and its claim's opposite is not, with this paper and with ()."""
        self.assertEqual(pair, (claim, paper))
        self.assertIs(type(pair), tuple)
        self.assertIs(accepts(*pair), True)
        if claim[0] in OPPOSITES:
            for other in (paper, ()):
                self.assertIs(accepts((OPPOSITES[claim[0]],) + claim[1:], other), False)


class TestRows(Certificates):
    def test_kinds(self):
        for term, kind in ((SAME, ROWS), (("number", 3), NUM), (("name", "x"), None), (T("fn x: a. x + 1"), None),
            (T("nil(b)"), ("list", B)), (T("(x, 1)"), None)):
            claim = ("no kind", term) if kind is None else ("kind", term, kind)
            self.check(certify_kind(term), claim, ())
            self.check(certify_kind(term=term), claim, ())

    def test_counted_terms(self):
        counts = [0, 0]
        for number in range(3000):
            term = term_from(number)
            if is_written(term):
                claim, paper = certify_kind(term)
                self.assertTrue(accepts(claim, paper))
                self.assertEqual(paper, ())
                counts[claim[0] == "kind"] += 1
                self.assertFalse(accepts(("no kind", term) if claim[0] == "kind" else ("kind", term, NUM), ()))
        self.assertGreater(min(counts), 30)

    def test_told(self):
        rows = (
            (BACK, AS_NUM, ((1, 2, 3),), (3, 2, 1)), (("number", 3), (), (), 3),
            (T("fn f: a -> unit | unit. fn x: a. f(x)"), AS_NUM, (BELOW_TWO, 4), NO),
        )
        for program, filling, arguments, answer in rows:
            claim = ("tells", program, (filling, arguments, answer))
            self.check(certify_told(program, filling, arguments), claim, ())
            self.check(certify_told(arguments=arguments, program=program, filling=filling), claim, ())

    def test_tables(self):
        for program, shape, table in ((TWICE, (((), ()),), (0, 0, 1, 1)), (SAME, ((),), ()),
            (MIXED, ((), ((), ()), ()), ("pair", 1, (0, 1)))):
            self.check(certify_table(program, shape), ("table", program, shape, table), ())
            self.check(certify_table(shape=shape, program=program), ("table", program, shape, table), ())

    def test_alike_and_unlike(self):
        rows = (
            (SAME, BACK, (((),),), "alike", ()), (SAME, BACK, (((), ()),), "unlike", (AS_NUM, (("a", (0, 1)),))),
            (SAME, TWICE, ((),), "alike", ()), (SAME, TWICE, (((),),), "unlike", (AS_NUM, (("a", (0,)),))),
            (MIXED, OTHER, ((), ((), (), ()), ()), "unlike", ((("a", NUM), ("b", NUM)), (("a", (0, 1, 2)), ("b", (0, 1))))),
            (MIXED, OTHER, ((), (), ()), "unlike", ((("a", NUM), ("b", NUM)), (("a", ()), ("b", (0, 1))))),
            (T("fn n: num. (n, nil(b))"), T("fn n: num. (n + 1, nil(b))"), (4,), "unlike", ((("b", NUM),), ())),
            (T("fn n: num. n"), T("fn n: num. n * n"), (1,), "alike", ()),
            (T("fn n: num. n"), T("fn n: num. n * n"), (2,), "unlike", ((), ())),
        )
        for one, two, shape, word, paper in rows:
            self.check(certify_alike(one, two, shape), (word, one, two, shape), paper)
            self.check(certify_alike(shape=shape, two=two, one=one), (word, one, two, shape), paper)

    def test_tested_alike_and_unlike(self):
        shape = (("test", 1), ((), ()))
        rows = (
            (KEPT, ALL, shape, "tested unlike", ((YES, NO),)), (KEPT, KEPT, shape, "tested alike", ()),
            (KEPT, ALL, (("test", 1), ()), "tested alike", ()), (SAME, BACK, (((), ()),), "tested unlike", ()),
            (SAME, BACK, (((),),), "tested alike", ()),
            (T("fn t: a -> a -> unit | unit. fn x: a. fn y: a. t(x)(y)"),
                T("fn t: a -> a -> unit | unit. fn x: a. fn y: a. t(y)(x)"), (("test", 2), (), ()), "tested unlike",
                (((YES, YES), (NO, YES)),)),
        )
        for one, two, shape, word, paper in rows:
            self.check(certify_tests(one, two, shape), (word, one, two, shape), paper)
            self.check(certify_tests(shape=shape, two=two, one=one), (word, one, two, shape), paper)

    def test_orders(self):
        for length, word, paper in ((0, "in order", ()), (1, "in order", ()), (2, "out of order", (1, 0)),
            (4, "out of order", (0, 0, 1, 0)), (10, "out of order", (0,) * 8 + (1, 0))):
            self.check(certify_order(UNPUT, length), (word, UNPUT, length), paper)
            self.check(certify_order(length=length, program=UNPUT), (word, UNPUT, length), paper)

    def test_related_and_not(self):
        one, two = T("fn x: num. x"), T("fn x: num. x * 10")
        rows = (
            (K("list a"), TENS, (1, 2), (10, 20), "related", ()), (K("list a"), TENS, (1, 2), (10, 10), "not related", (1,)),
            (K("list a"), TENS, (1, 2), (10,), "not related", ()), (K("a -> a"), TENS, one, one, "related", ()),
            (K("a -> num"), TENS, two, one, "related", ()), (K("a -> num"), TENS, one, two, "not related", (("with", 1, 10),)),
            (UNIT, (), (), (), "related", ()),
        )
        for kind, relation, first, second, word, paper in rows:
            self.check(certify_related(kind, relation, first, second), (word, kind, relation, first, second), paper)
            self.check(certify_related(two=second, one=first, relation=relation, kind=kind),
                (word, kind, relation, first, second), paper)


class TestCounted(Certificates):
    def test_programs(self):
        counts = {}
        filling = (("a", NUM), ("b", ("list", UNIT)), ("c", UNIT))
        for text in ("list a", "num -> list a -> list (a, num)", "(a, b) -> list a -> list (a | b)"):
            kind = ("fun", A, ("fun", B, ("fun", C, K(text))))
            asked, _ = row_of(kind)
            programs = [program_of(kind[2][2][2], number * number * 7919 + (number ** 9 << 20), 4) for number in range(1, 90)]
            programs = [program for program in programs if is_written(program)]
            for at, (one, two) in enumerate(zip(programs, programs[1:])):
                shape = tuple(value_from(with_kind(part, {"a": UNIT, "b": UNIT, "c": UNIT}), at * 13 + more) for more,
                    part in enumerate(asked))
                arguments = tuple(value_from(with_kind(part, dict(filling)), at * 7 + more) for more, part in enumerate(asked))
                for claim, paper in (certify_kind(one), certify_told(one, filling, arguments), certify_table(one, shape),
                    certify_alike(one, two, shape), certify_tests(one, two, shape)):
                    self.check((claim, paper), claim, paper)
                    counts[claim[0]] = counts.get(claim[0], 0) + 1
        self.assertEqual(set(counts), {"kind", "tells", "table", "alike", "unlike", "tested alike", "tested unlike"})
        self.assertGreater(min(counts.values()), 10)

    def test_related_things(self):
        counts = {"related": 0, "not related": 0}
        for text, number in itertools.product(("(a, num)", "list (a | num)", "a -> num", "a -> b -> list a",
            "(a | b) -> (num, b)", "list (a -> a)", "unit -> list c"), range(1, 40)):
            kind, relation, seed = K(text), relation_from(number * 7), number * number * 7919 + (number ** 9 << 12)
            one, two = closed_thing(kind, ones_of(relation), seed), closed_thing(kind, twos_of(relation),
                seed if number % 3 else seed // 5)
            if "fun" in str(kind) and not (is_written(one) and is_written(two)):
                continue
            claim, paper = certify_related(kind, relation, one, two)
            self.check((claim, paper), claim, paper)
            counts[claim[0]] += 1
        self.assertGreater(min(counts.values()), 50)


class TestNone(unittest.TestCase):
    def test_each_row(self):
        both = (AS_NUM, ((1, 2),), (2, 1)), (AS_UNIT, (((), ()),), ((),))
        two_kinds = (("a", NUM), ("b", UNIT))
        rows = (
            (ROWS, ((AS_NUM, ((1, 2),), (3,)),), (("a", NUM, NUM, ((1, 1), (2, 2))),)),
            (ROWS, ((AS_NUM, ((1, 2),), (2, 2)),), None),
            (ROWS, ((AS_NUM, ((2, 1, 2),), (3,)),), (("a", NUM, NUM, ((1, 1), (2, 2))),)),
            (ROWS, both, (("a", NUM, UNIT, ((1, ()), (2, ()))),)), (ROWS, both[::-1], (("a", UNIT, NUM, (((), 1), ((), 2))),)),
            (ROWS, (both[0], (AS_NUM, ((5, 6),), (6, 5))), None),
            (ROWS, (both[0], (AS_NUM, ((5, 6),), (5, 6))), (("a", NUM, NUM, ((1, 5), (2, 6))),)),
            (ROWS, (both[0], (AS_NUM, ((5, 6, 7),), (5,))), None), (ROWS, ((AS_NUM, ((),), (3,)),), (("a", NUM, NUM, ()),)),
            (ROWS, ((AS_NUM, ((1, 1),), (1,)), (AS_NUM, ((1, 2),), (1,))), None),
            (ROWS, ((AS_NUM, ((1, 1),), (1,)), (AS_NUM, ((1, 2),), (2,))), None),
            (ROWS, ((AS_NUM, ((1, 1),), (1,)), (AS_NUM, ((1, 2),), (3,))), (("a", NUM, NUM, ((1, 1), (1, 2))),)),
            (K("list a -> num"), ((AS_NUM, ((1, 2),), 3), (AS_NUM, ((4, 5),), 3)), None),
            (K("list a -> num"), ((AS_NUM, ((1, 2),), 3), (AS_UNIT, (((), ()),), 4)), (("a", NUM, UNIT, ((1, ()), (2, ()))),)),
            (K("num -> a -> num"), ((AS_NUM, (3, 1), 3), (AS_NUM, (4, 1), 9)), None),
            (K("num -> a -> num"), ((AS_NUM, (3, 1), 3), (AS_NUM, (3, 1), 9)), (("a", NUM, NUM, ((1, 1),)),)),
            (K("num -> list b"), ((two_kinds, (3,), ((),)),), (("b", UNIT, UNIT, ()),)),
            (K("a -> b -> a | b"), ((two_kinds, (3, ()), ("left", 4)),),
                (("a", NUM, NUM, ((3, 3),)), ("b", UNIT, UNIT, (((), ()),)))),
            (K("a -> b -> a | b"), ((two_kinds, (3, ()), ("right", ())),), None),
            (K("a -> b -> a | b"), ((two_kinds, (3, ()), ("right", ())), (two_kinds, (3, ()), ("left", 3))),
                (("a", NUM, NUM, ((3, 3),)), ("b", UNIT, UNIT, (((), ()),)))),
            (TESTED, ((AS_NUM, (BELOW_TWO, (1, 5)), (7,)),), (("a", NUM, NUM, ((1, 1), (5, 5))),)),
            (TESTED, ((AS_NUM, (BELOW_TWO, (1, 0)), (1,)), (AS_UNIT, (ALWAYS, ((), ())), ())),
                (("a", NUM, UNIT, ((0, ()), (1, ()))),)),
            (TESTED, ((AS_NUM, (BELOW_TWO, (1, 5)), (1,)), (AS_UNIT, (ALWAYS, ((), ())), ())), None),
            (TESTED, ((AS_NUM, (BELOW_TWO, (1, 0)), (1,)), (AS_UNIT, (ALWAYS, ((), ())), ((),))), None),
            (TESTED, ((AS_NUM, (BELOW_TWO, (1, 0)), (1,)), (AS_UNIT, (ALWAYS, ((),)), ())), None),
            (K("(a -> a -> unit | unit) -> a -> a -> a"), ((AS_NUM, (T("fn x: num. fn y: num. x < y"), 1, 2), 3),),
                (("a", NUM, NUM, ((1, 1), (2, 2))),)),
            (K("(a -> a -> unit | unit) -> a -> a -> a"),
                ((AS_NUM, (T("fn x: num. fn y: num. x < y"), 1, 2), 1), (AS_NUM, (T("fn x: num. fn y: num. x < y"), 4, 7), 7)),
                (("a", NUM, NUM, ((1, 4), (2, 7))),)),
            (K("(a -> a -> unit | unit) -> a -> a -> a"),
                ((AS_NUM, (T("fn x: num. fn y: num. x < y"), 1, 2), 1), (AS_NUM, (T("fn x: num. fn y: num. x < y"), 7, 4), 4)),
                None), (K("(c -> unit | unit) -> num"), ((( ("c", NUM),), (BELOW_TWO,), 1), ((("c", NUM),), (BELOW_TWO,), 2)),
                (("c", NUM, NUM, ()),)),
            (ROWS, (((("a", NUM), ("b", NUM)), ((1, 2),), (3,)), ((("a", NUM), ("c", UNIT)), ((1, 2),), (3,))),
                (("a", NUM, NUM, ((1, 1), (2, 2))),)),
        )
        for kind, runs, relation in rows:
            with self.subTest(kind, runs=runs):
                claim = ("none tells", kind, runs)
                self.assertEqual(certify_none(kind, runs), None if relation is None else (claim, relation))
                self.assertEqual(certify_none(runs=runs, kind=kind), certify_none(kind, runs))
                if relation is not None:
                    self.assertTrue(accepts(claim, relation))

    def test_what_programs_tell_has_no_such_relation(self):
        kind = ("fun", A, ("fun", B, ("fun", C, K("list a -> list (a, b)"))))
        asked, left = row_of(kind)
        fillings = ((("a", NUM), ("b", NUM), ("c", UNIT)), (("a", UNIT), ("b", ("list", NUM)), ("c", NUM)),
            (("a", NUM), ("b", UNIT), ("c", NUM)))
        ran = 0
        for number in range(1, 150):
            program = program_of(kind[2][2][2], number * number * 7919 + (number ** 9 << 20), 4)
            if not is_written(program):
                continue
            runs = []
            for at in (0, 1):
                filling = fillings[(number + at) % 3]
                shape = tuple(value_from(with_kind(part, {"a": UNIT, "b": UNIT, "c": UNIT}), number * 13) for part in asked)
                arguments = tuple(replaced(part, value, lambda var,
                    mark: value_from(dict(filling)[var], mark * 3 % 4 + at)) for part,
                    value in zip(asked, numbered(asked, shape)))
                runs.append((filling, arguments, told(program, filling, arguments)))
            for some in (tuple(runs), tuple(runs[:1]), tuple(runs[1:])):
                self.assertIsNone(certify_none(kind, some))
                self.assertTrue(accepts(("some tells", kind, some), program))
            ran += 1
        self.assertGreater(ran, 60)

    def test_of_one_run_each_thing_stands_at_a_place(self):
        counts = [0, 0]
        kind = K("(a, b) -> list a -> list (a | b)")
        asked, left = row_of(kind)
        filling = (("a", NUM), ("b", ("either", NUM, UNIT)))
        for number in range(600):
            arguments = tuple(value_from(with_kind(part, dict(filling)), number * 7 + at) for at, part in enumerate(asked))
            answer = value_from(with_kind(left, dict(filling)), number * 5)
            at_places = [spot for part, value in zip(asked, arguments) for spot in spots(part, value)]
            holds = all(spot in at_places for spot in spots(left, answer))
            found = certify_none(kind, ((filling, arguments, answer),))
            self.assertIs(found is None, holds)
            if found is not None:
                self.assertTrue(is_relation(found[1]))
                self.assertTrue(accepts(*found))
            counts[holds] += 1
        self.assertGreater(min(counts), 20)

    def test_many_rows(self):
        kind, test = K("(a -> a -> unit | unit) -> list a -> num"), T("fn x: num. fn y: num. x < y")
        for many in (20, 21):
            runs = ((AS_NUM, (test, tuple(range(many))), 1), (AS_NUM, (test, tuple(range(many))), 2))
            if many == 20:
                self.assertEqual(certify_none(kind, runs),
                    (("none tells", kind, runs), (("a", NUM, NUM, tuple((at, at) for at in range(20))),)))
                continue
            with self.assertRaises(TooMany) as caught:
                certify_none(kind, runs)
            self.assertEqual(caught.exception.given, 441)
            # Where the shapes are not one it is None.
            for other in (20, 22, 30):
                self.assertIsNone(certify_none(kind, (runs[0], (AS_NUM, (test, tuple(range(other))), 2))))
                self.assertIsNone(certify_none(kind, ((AS_NUM, (test, tuple(range(other))), 2), runs[0])))
        two = K("(b -> unit | unit) -> (a -> a -> unit | unit) -> (a -> unit | unit) -> list a -> list b -> num")
        filling = (("a", NUM), ("b", NUM))
        for first, second, given_here in ((30, 3, 900), (401, 500, 500), (3, 500, 500), (420, 2, 420 * 420)):
            arguments = (BELOW_TWO, test, BELOW_TWO, tuple(range(first)), tuple(range(second)))
            with self.assertRaises(TooMany) as caught:
                certify_none(two, ((filling, arguments, 1),))
            self.assertEqual(caught.exception.given, given_here)
        arguments = (BELOW_TWO, test, BELOW_TWO, (1,) * 3000, (2, 3) * 1000)
        self.assertIsNone(certify_none(two, ((filling, arguments, 1),)))

    def test_errors(self):
        run = (AS_NUM, ((1, 2),), (2, 1))
        for thing in odd_things():
            if not is_kind(thing):
                with self.assertRaises(InvalidKind) as caught:
                    certify_none(thing, None)
                self.assertIs(caught.exception.given, thing)
            elif not is_tested(thing):
                with self.assertRaises(NotTested) as caught:
                    certify_none(thing, None)
                self.assertEqual(caught.exception.kind, thing)
            with self.assertRaises(InvalidRuns) as caught:
                certify_none(ROWS, (run, thing))
            self.assertEqual(caught.exception.index, 1)
            wrong = [(thing, run[1], run[2]), (thing,) * 3]
            if not is_value(("list", NUM), thing):
                wrong += [(AS_NUM, (thing,), run[2]), (AS_NUM, run[1], thing)]
            if not isinstance(thing, tuple):
                wrong += [(AS_NUM, thing, run[2]), thing]
            for part in wrong:
                with self.assertRaises(InvalidRuns) as caught:
                    certify_none(ROWS, (part, run))
                self.assertEqual(caught.exception.index, 0)
        for kind in (NUM, K("num -> num -> list (a -> a)"), K("(num -> a) -> a"), K("a -> b -> c -> a -> b -> c -> num -> num"),
            K("list a"), K("(a -> num) -> num")):
            with self.assertRaises(NotTested) as caught:
                certify_none(kind, None)
            self.assertEqual(caught.exception.kind, kind)
        for runs, index in (
            (None, None), ((), None), ([run], None), ((run, run, run), None), (run, None), ("run", None), ((None,), 0),
            ((run, None), 1), ((run[:2],), 0), ((run + (0,),), 0), ((list(run),), 0), ((((), ((1, 2),), (2, 1)),), 0),
            (((AS_NUM, ((1, 2),), [2, 1]),), 0), (((AS_NUM, ((1, 2), 3), (2, 1)), None), 0),
            ((run, (AS_NUM, ((1, 2),), (True,))), 1), ((run, (AS_UNIT, ((1, 2),), ())), 1), ((run, ((("a", A),), ((),), ())), 1),
            ((run, (AS_NUM, (), (1,))), 1),
        ):
            with self.assertRaises(InvalidRuns) as caught:
                certify_none(ROWS, runs)
            self.assertEqual(caught.exception.index, index)


class TestErrors(unittest.TestCase):
    def raises(self, error, kept, ask, *told_here):
        with self.assertRaises(error) as caught:
            ask(*told_here)
        self.assertIs(type(caught.exception), error)
        self.assertEqual(list(vars(caught.exception).values()), kept)

    def test_terms(self):
        deep = chain(lambda part: ("minus", part), ("number", 1), 17)
        rows = ((("fn",), ()), (deep, (1,) * 16), (None, ()), (("nil", chain(lambda part: ("list", part), NUM, 7)), (1,)),
            (("fn", "x", A, ("name", "let")), (3, 1)))
        for term, place in rows:
            self.raises(InvalidTerm, [place], certify_kind, term)
            self.raises(InvalidTerm, [place], certify_told, term, None, None)
            self.raises(InvalidTerm, [place], certify_table, term, None)
            self.raises(InvalidTerm, [place], certify_alike, term, None, None)
            self.raises(InvalidTerm, [place], certify_alike, SAME, term, None)
            self.raises(InvalidTerm, [place], certify_tests, KEPT, term, None)
            self.raises(InvalidTerm, [place], certify_order, term, None)
        for thing in odd_things():
            if not is_written(thing):
                self.raises(InvalidTerm, [wrong_place(thing, 16, 6)], certify_kind, thing)

    def test_what_the_functions_raise(self):
        no_kind, shape = T("fn x: a. x + 1"), (((), ()),)
        rows = (
            (WrongTerm, [(3, 1)], certify_told, no_kind, None, None),
            (InvalidFilling, [0], certify_told, SAME, (("d", NUM),), None),
            (InvalidArguments, [0], certify_told, SAME, AS_NUM, (((),),)),
            (NotData, [("fun", ("list", NUM), ("list", NUM))], certify_told, SAME, AS_NUM, ()),
            (WrongTerm, [(3, 1)], certify_table, no_kind, None), (NotFirst, [NUM], certify_table, ("number", 3), None),
            (InvalidShape, [0], certify_table, SAME, ((0,),)),
            (WrongTerm, [(3, 1)], certify_alike, SAME, no_kind, None),
            (NotFirst, [kind_of((), KEPT)], certify_alike, SAME, KEPT, None),
            (InvalidShape, [None], certify_alike, SAME, SAME, ()),
            (UnlikeKinds, [], certify_alike, SAME, T("fn l: list b. l"), shape),
            (NotTested, [kind_of((), UNPUT)], certify_tests, KEPT, UNPUT, None),
            (InvalidShape, [0], certify_tests, KEPT, KEPT, (("test", 2), ())),
            (UnlikeKinds, [], certify_tests, KEPT, SAME, (("test", 1), ())),
            (TooMany, [13], certify_tests, KEPT, ALL, (("test", 1), ((),) * 13)), (NotPutting, [ROWS], certify_order, SAME, None),
            (InvalidNumber, [11], certify_order, UNPUT, 11), (InvalidNumber, [True], certify_order, UNPUT, True),
            (InvalidKind, [K("num -> num")], certify_related, K("num -> num"), None, None, None),
            (InvalidRelation, [None], certify_related, A, [], None, None), (Unfilled, ["a"], certify_related, A, (), None, None),
            (InvalidThing, [()], certify_related, A, TENS, (), None), (InvalidThing, [True], certify_related, A, TENS, 1, True),
            (TooMany, [401], certify_related, K("a -> num"), (("a", NUM, NUM, tuple((at, at) for at in range(401))),),
                T("fn x: num. x"), T("fn x: num. x")),
        )
        for error, kept, ask, *told_here in rows:
            self.raises(error, kept, ask, *told_here)

    def test_nothing_that_was_passed_is_changed(self):
        told_here = (MIXED, OTHER, ((), ((), ()), ()))
        runs = ((AS_NUM, ((1, 2),), (3,)),)
        before = copy.deepcopy((told_here, runs))
        for _ in range(2):
            self.assertEqual(certify_alike(*told_here)[0][0], "unlike")
            self.assertEqual(certify_none(ROWS, runs)[1], (("a", NUM, NUM, ((1, 1), (2, 2))),))
        self.assertEqual((told_here, runs), before)
        self.assertEqual(variables_of(kind_of((), MIXED)), ("a", "b"))


if __name__ == "__main__":
    unittest.main()

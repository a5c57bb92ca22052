"""Points 4, 5, 6 and D4: what programs tell for the answers of tests, and for all answers."""

import copy
import itertools
import unittest

from bykindalone.answers import parting_answers, tested_alike, tested_answer
from bykindalone.errors import InvalidAnswers, InvalidShape, InvalidTerm, NotTested, TooMany, UnlikeKinds, WrongTerm
from bykindalone.marks import alike_at, table_of
from bykindalone.meaning import told
from bykindalone.terms import free_names, is_written
from bykindalone.text import read_kind, read_term
from kinded import term_of
from made import value_from
from meant import NO, UNITS, YES, given, meant, numbered, row_of, spots, with_kind
from things import A, B, C, NUM, UNIT, odd_things

T, K = read_term, read_kind
TRUTHS = "unit | unit"
KEPT = T("fn t: a -> unit | unit. fn l: list a. fold(fn x: a. fn r: list a. case t(x) {u. cons(x, r); v. r}, nil(a), l)")
DROPPED = T("fn t: a -> unit | unit. fn l: list a. fold(fn x: a. fn r: list a. case t(x) {u. r; v. cons(x, r)}, nil(a), l)")
ALL = T("fn t: a -> unit | unit. fn l: list a. l")
# The things that a test of two answers yes of with the first thing.
BESIDE = T("fn t: a -> b -> unit | unit. fn x: a. fn l: list b. fold(fn y: b. fn r: list b. case t(x)(y) {u. cons(y, r); v. r}, nil(b), l)")
NONE = T("fn t: a -> b -> unit | unit. fn x: a. fn l: list b. nil(b)")


def answers_in_order(kind, shape):
    """All answers of the tests at the shape, left ahead of right, the last place turning first."""
    asked, _ = row_of(kind)
    found = [var for part, value in zip(asked, shape) if part[0] != "fun" for var, _ in spots(part, value)]
    counts = {var: found.count(var) for var in "abc"}
    rows = []
    for part in asked:
        if part[0] == "fun":
            again = list(itertools.product((YES, NO), repeat=counts[part[1][1]]))
            if part[2][0] == "fun":
                each = list(itertools.product((YES, NO), repeat=counts[part[2][1][1]]))
                again = list(itertools.product(each, repeat=counts[part[1][1]]))
            rows.append(again)
    return list(itertools.product(*rows))


def answered(program, kind, shape, answers):
    """What the program means of the marked arguments, the tests answering so."""
    asked, _ = row_of(kind)
    waiting = list(answers)
    arguments = []
    for part, value in zip(asked, numbered(asked, shape)):
        if part[0] != "fun":
            arguments.append(value)
            continue
        told_of = waiting.pop(0)
        two = part[2][0] == "fun"
        arguments.append((lambda x, told_of=told_of: lambda y: told_of[x][y]) if two else (lambda x, told_of=told_of: told_of[x]))
    return given(meant(program), arguments)


class TestAnswers(unittest.TestCase):
    def test_each_row(self):
        one_shape, two_shape = (("test", 1), ((), (), ())), (("test", 2), (), ((), (), ()))
        rows = (
            (KEPT, one_shape, ((YES, NO, YES),), (0, 2)), (KEPT, one_shape, ((NO, NO, NO),), ()),
            (DROPPED, one_shape, ((YES, NO, YES),), (1,)),
            (ALL, one_shape, ((YES, NO, NO),), (0, 1, 2)), (KEPT, (("test", 1), ()), ((),), ()),
            (BESIDE, two_shape, (((YES, NO, YES),),), (0, 2)), (BESIDE, two_shape, (((NO, YES, NO),),), (1,)),
            (BESIDE, (("test", 2), (), ()), (((),),), ()),
            (T("fn x: a. fn t: a -> unit | unit. fn y: a. (t(x), t(y))"), ((), ("test", 1), ()), ((YES, NO),), ("pair", YES, NO)),
            (T("fn x: a. fn t: a -> a -> unit | unit. fn y: a. ((t(x)(x), t(x)(y)), (t(y)(x), t(y)(y)))"), ((), ("test", 2), ()),
             (((YES, NO), (NO, NO)),), ("pair", ("pair", YES, NO), ("pair", NO, NO))),
            (T("fn x: a. fn t: a -> a -> unit | unit. fn y: a. ((t(x)(x), t(x)(y)), (t(y)(x), t(y)(y)))"), ((), ("test", 2), ()),
             (((NO, NO), (YES, NO)),), ("pair", ("pair", NO, NO), ("pair", YES, NO))),
            (T("fn s: a -> unit | unit. fn t: a -> unit | unit. fn x: a. (s(x), t(x))"), (("test", 1), ("test", 1), ()),
                ((YES,), (NO,)), ("pair", YES, NO)),
            (T("fn s: b -> unit | unit. fn x: a. fn t: a -> unit | unit. fn y: b. (s(y), t(x))"),
                (("test", 1), (), ("test", 1), ()), ((NO,), (YES,)), ("pair", NO, YES)),
            (T("fn s: b -> unit | unit. fn x: a. x"), (("test", 1), ()), ((),), 0),
            (T("fn s: a -> b -> unit | unit. fn x: a. fn y: a. y"), (("test", 2), (), ()), (((), ()),), 1),
            (T("fn s: b -> a -> unit | unit. fn x: a. fn y: a. y"), (("test", 2), (), ()), ((),), 1),
            (T("fn s: c -> unit | unit. 4"), (("test", 1),), ((),), 4),
            (T("fn l: list a. fn n: num. n"), (((), ()), 5), (), 5), (T("fn l: list a. l"), (((), ()),), (), (0, 1)),
        )
        for program, shape, answers, answer in rows:
            self.assertEqual(tested_answer(program, shape, answers), answer)
            self.assertEqual(tested_answer(answers=answers, shape=shape, program=program), answer)

    def test_programs_that_are_parted(self):
        shape = (("test", 1), ((), (), ()))
        rows = (
            (KEPT, ALL, shape, ((YES, YES, NO),)), (DROPPED, ALL, shape, ((YES, YES, YES),)),
            (KEPT, DROPPED, shape, ((YES, YES, YES),)), (KEPT, KEPT, shape, None),
            (KEPT, ALL, (("test", 1), ()), None), (BESIDE, NONE, (("test", 2), (), ((), ())), (((YES, YES),),)),
            (BESIDE, NONE, (("test", 2), (), ()), None),
            (T("fn t: a -> unit | unit. fn x: a. fn y: a. case t(x) {u. x; v. y}"),
                T("fn t: a -> unit | unit. fn x: a. fn y: a. x"), (("test", 1), (), ()), ((NO, YES),)),
            (T("fn t: a -> unit | unit. fn x: a. fn y: a. case t(x) {u. x; v. case t(y) {u. x; v. y}}"),
                T("fn t: a -> unit | unit. fn x: a. fn y: a. x"),
             (("test", 1), (), ()), ((NO, NO),)),
            (T("fn t: a -> a -> unit | unit. fn x: a. fn y: a. t(x)(y)"),
                T("fn t: a -> a -> unit | unit. fn x: a. fn y: a. t(y)(x)"),
             (("test", 2), (), ()), (((YES, YES), (NO, YES)),)),
            (T("fn s: a -> unit | unit. fn t: b -> unit | unit. fn x: a. fn y: b. s(x)"),
                T("fn s: a -> unit | unit. fn t: b -> unit | unit. fn x: a. fn y: b. t(y)"),
             (("test", 1), ("test", 1), (), ()), ((YES,), (NO,))),
            (T("fn x: a. fn y: a. x"), T("fn x: a. fn y: a. y"), ((), ()), ()),
            (T("fn x: a. fn y: a. x"), T("fn y: a. fn x: a. y"), ((), ()), None),
        )
        for one, two, shape, answers in rows:
            self.assertEqual(parting_answers(one, two, shape), answers)
            self.assertEqual(parting_answers(shape=shape, two=two, one=one), answers)
            self.assertEqual(parting_answers(two, one, shape), answers)
            self.assertIs(tested_alike(one, two, shape), answers is None)
            self.assertIs(tested_alike(shape=shape, two=one, one=two), answers is None)

    def test_first_programs_are_parted_as_their_tables_are(self):
        one, two = T("fn l: list a. l"), T("fn l: list a. fold(fn x: a. fn r: list a. cons(x, r), nil(a), l)")
        other = T("fn l: list a. nil(a)")
        for many in range(5):
            shape = (((),) * many,)
            self.assertTrue(tested_alike(one, two, shape))
            self.assertIs(tested_alike(one, other, shape), alike_at(one, other, shape))
            self.assertEqual(parting_answers(one, other, shape), None if many == 0 else ())
            self.assertEqual(tested_answer(one, shape, ()), table_of(one, shape))

    def test_twelve_answers_and_thirteen(self):
        last = "fn t: a -> unit | unit. fn l: list a. fold(fn x: a. fn r: unit | unit. case t(x) {u. r; v. right(unit, ())}, left((), unit), l)"
        shape = (("test", 1), ((),) * 12)
        yes = "fn t: a -> unit | unit. fn l: list a. left((), unit)"
        self.assertEqual(parting_answers(T(last), T(yes), shape), ((YES,) * 11 + (NO,),))
        # Only where all twelve are no do these two tell unlike.
        some = T("fn t: a -> unit | unit. fn l: list a. fold(fn x: a. fn r: unit | unit. case t(x) {u. left((), unit); v. r}, right(unit, ()), l)")
        self.assertEqual(parting_answers(some, T(yes), shape), ((NO,) * 12,))
        self.assertTrue(tested_alike(some, some, shape))
        for many in (13, 14, 40):
            for ask in (tested_alike, parting_answers):
                with self.assertRaises(TooMany) as caught:
                    ask(some, T(yes), (("test", 1), ((),) * many))
                self.assertEqual(caught.exception.given, many)
            self.assertEqual(tested_answer(some, (("test", 1), ((),) * many), ((NO,) * many,)), NO)

    def test_answers_together(self):
        text = "fn s: a -> unit | unit. fn t: a -> b -> unit | unit. fn k: list a. fn l: list b. fn u: b -> b -> unit | unit. k"
        for k, l in itertools.product(range(6), range(5)):
            shape = (("test", 1), ("test", 2), ((),) * k, ((),) * l, ("test", 2))
            many = k + k * l + l * l
            if many > 12:
                for ask in (tested_alike, parting_answers):
                    with self.assertRaises(TooMany) as caught:
                        ask(T(text), T(text), shape)
                    self.assertEqual(caught.exception.given, many)
            else:
                self.assertTrue(tested_alike(T(text), T(text), shape))


class TestCounted(unittest.TestCase):
    KINDS = (
        f"(a -> {TRUTHS}) -> list a -> a -> list a", f"(a -> a -> {TRUTHS}) -> list a -> a -> list (a, a)",
        f"(a -> b -> {TRUTHS}) -> a | b -> list b -> a -> b -> a | b",
        f"(a -> {TRUTHS}) -> (b -> {TRUTHS}) -> a -> list b -> b -> num",
        f"a -> (a -> {TRUTHS}) -> a -> (a -> a -> {TRUTHS}) -> (a, {TRUTHS})",
    )

    def programs(self, kind):
        asked, left = row_of(kind)
        bound = list(zip(("t1", "t2", "t3", "t4", "t5"), asked))
        found = []
        for number in range(1, 3000):
            # With x, y and z each variable has a thing; programs in which these stand are none.
            body = term_of(left, {**dict(bound), "x": A, "y": B, "z": C}, number * number * 7919 + (number ** 9 << 12), 5)
            if not set(free_names(body)) <= {name for name, _ in bound}:
                continue
            for name, part in reversed(bound):
                body = ("fn", name, part, body)
            if is_written(body):
                found.append(body)
            if len(found) == 40:
                return found
        return found

    def test_counted_programs_tell_what_they_mean_and_are_parted_first(self):
        parted = alike = 0
        for text in self.KINDS:
            kind = K(text)
            asked, _ = row_of(kind)
            programs = self.programs(kind)
            self.assertGreater(len(programs), 20, text)
            for at, (one, two) in enumerate(zip(programs, programs[1:])):
                shape = self.shape_from(asked, at)
                rows = answers_in_order(kind, shape)
                if len(rows) > 4096:
                    continue
                first = None
                for answers in rows:
                    left, right = answered(one, kind, shape, answers), answered(two, kind, shape, answers)
                    self.assertEqual(tested_answer(one, shape, answers), left)
                    if left != right:
                        first = answers
                        break
                self.assertEqual(parting_answers(one, two, shape), first)
                self.assertIs(tested_alike(one, two, shape), first is None)
                parted, alike = parted + (first is not None), alike + (first is None)
        self.assertGreater(parted, 60)
        self.assertGreater(alike, 10)

    def shape_from(self, asked, number):
        shape = []
        for at, part in enumerate(asked):
            if part[0] == "fun":
                shape.append(("test", 2 if part[2][0] == "fun" else 1))
            elif part[0] == "list":
                shape.append(((),) * ((number + at) % 4))
            else:
                shape.append(value_from(with_kind(part, UNITS), number))
        return tuple(shape)

    def test_what_tests_tell_of_things_they_answer_of_marks(self):
        # A test at things answers as that one on marks which asks for the things at the marks' places.
        asked = T("fn x: num. x < 10")
        for things in itertools.product((3, 12, 10, 9), repeat=3):
            answers = tuple(YES if thing < 10 else NO for thing in things)
            for program in (KEPT, DROPPED, ALL):
                marks = tested_answer(program, (("test", 1), ((), (), ())), (answers,))
                self.assertEqual(told(program, (("a", NUM),), (asked, things)), tuple(things[mark] for mark in marks))


class TestErrors(unittest.TestCase):
    def raises(self, error, kept, ask, **told_here):
        names = ("program", "shape", "answers") if ask is tested_answer else ("one", "two", "shape")
        for run in (lambda: ask(**told_here), lambda: ask(*[told_here[name] for name in names])):
            with self.assertRaises(error) as caught:
                run()
            self.assertIs(type(caught.exception), error)
            self.assertEqual(list(vars(caught.exception).values()), kept)

    def test_programs(self):
        rows = (
            (("fn",), InvalidTerm, ()), (None, InvalidTerm, ()), (("name", "x"), WrongTerm, ()),
            (T("fn x: a. x + 1"), WrongTerm, (3, 1)), (T("3"), NotTested, NUM),
            (T("fn f: a -> num. fn x: a. x"), NotTested, K("(a -> num) -> a -> a")),
            (T("fn f: num -> unit | unit. 3"), NotTested, K("(num -> unit | unit) -> num")),
            (T("fn t: a. fn u: a. fn v: a. fn w: a. fn x: a. fn y: a. fn z: a. x"), NotTested,
                K("a -> a -> a -> a -> a -> a -> a -> a")),
        )
        for program, error, kept in rows:
            self.raises(error, [kept], tested_answer, program=program, shape=None, answers=None)
            for ask in (tested_alike, parting_answers):
                self.raises(error, [kept], ask, one=program, two=None, shape=None)
                self.raises(error, [kept], ask, one=KEPT, two=program, shape=None)

    def test_shapes(self):
        rows = (
            (None, None), ([("test", 1), ()], None), ((("test", 1),), None), ((("test", 1), (), ()), None), ((), None),
            ((("test", 2), ()), 0), ((("test", 0), ()), 0),
            ((("test", True), ()), 0), ((("test", "1"), ()), 0), ((("test",), ()), 0), ((("test", 1, 1), ()), 0),
            ((["test", 1], ()), 0), ((("tests", 1), ()), 0),
            (((), ()), 0), ((None, None), 0), ((("test", 1), (0,)), 1), ((("test", 1), [()]), 1), ((("test", 1), ("test", 1)), 1),
            (((1, "test"), ()), 0),
        )
        for shape, index in rows:
            self.raises(InvalidShape, [index], tested_answer, program=KEPT, shape=shape, answers=None)
            for ask in (tested_alike, parting_answers):
                self.raises(InvalidShape, [index], ask, one=KEPT, two=KEPT, shape=shape)
                self.raises(InvalidShape, [index], ask, one=KEPT, two=T("fn x: a. x"), shape=shape)
        self.raises(InvalidShape, [0], tested_answer, program=BESIDE, shape=(("test", 1), (), ()), answers=None)
        for thing in odd_things():
            self.raises(InvalidShape, [0], tested_answer, program=KEPT, shape=(thing, ()), answers=None)
            self.raises(InvalidShape, [0], tested_answer, program=KEPT, shape=((thing, 1), ()), answers=None)
            if thing != 1 or thing is True:
                self.raises(InvalidShape, [0], tested_answer, program=KEPT, shape=(("test", thing), ()), answers=None)
            self.raises(InvalidShape, [1], tested_answer, program=T("fn x: a. fn t: a -> unit | unit. x"), shape=((), thing),
                answers=None)

    def test_wrong_answers(self):
        program = T("fn s: a -> unit | unit. fn t: a -> b -> unit | unit. fn x: a. fn y: b. fn z: a. x")
        shape, one, two = (("test", 1), ("test", 2), (), (), ()), (YES, NO), ((YES,), (NO,))
        self.assertEqual(tested_answer(program, shape, (one, two)), 0)
        rows = (
            (None, None), ([one, two], None), ((), None), ((one,), None), ((one, two, one), None), ("", None), (((YES,), two), 0),
            (((YES, NO, NO), two), 0),
            (([YES, NO], two), 0), (((YES, ("left", 0)), two), 0), (((True, False), two), 0), (((YES, None), None), 0),
            ((two, one), 0), ((one, one), 1),
            ((one, ((YES,),)), 1), ((one, ((YES,), (NO,), (NO,))), 1), ((one, ((YES,), (NO, NO))), 1), ((one, ((YES,), ())), 1),
            ((one, ((YES,), [NO])), 1),
            ((one, ((YES,), ("right",))), 1), ((one, [(YES,), (NO,)]), 1), ((one, ((YES, YES), (NO, NO))), 1), ((one, None), 1),
        )
        for answers, index in rows:
            self.raises(InvalidAnswers, [index], tested_answer, program=program, shape=shape, answers=answers)
        for thing in odd_things():
            self.raises(InvalidAnswers, [0], tested_answer, program=program, shape=shape, answers=(thing, two))
            self.raises(InvalidAnswers, [1], tested_answer, program=program, shape=shape, answers=(one, thing))
            self.raises(InvalidAnswers, [1], tested_answer, program=program, shape=shape, answers=(one, (thing, thing)))
            self.raises(InvalidAnswers, [0], tested_answer, program=program, shape=shape, answers=((thing, YES), two))
            if not isinstance(thing, tuple):
                self.raises(InvalidAnswers, [None], tested_answer, program=program, shape=shape, answers=thing)
        self.raises(InvalidAnswers, [None], tested_answer, program=T("fn x: a. x"), shape=((),), answers=((),))

    def test_unlike_kinds_and_too_many(self):
        long = (("test", 1), ((),) * 13)
        for ask in (tested_alike, parting_answers):
            for other in (T("fn x: a. x"), T("fn t: b -> unit | unit. fn l: list a. l"),
                T("fn t: a -> a -> unit | unit. fn l: list a. l")):
                self.raises(UnlikeKinds, [], ask, one=KEPT, two=other, shape=long)
            self.raises(TooMany, [13], ask, one=KEPT, two=ALL, shape=long)
            self.raises(TooMany, [16], ask, one=T("fn t: a -> a -> unit | unit. fn l: list a. l"),
                two=T("fn t: a -> a -> unit | unit. fn l: list a. l"), shape=(("test", 2), ((),) * 4))

    def test_nothing_that_was_passed_is_changed(self):
        told_here = (KEPT, (("test", 1), ((), (), ())), ((YES, NO, YES),))
        before = copy.deepcopy(told_here)
        for _ in range(2):
            self.assertEqual(tested_answer(*told_here), (0, 2))
            self.assertEqual(parting_answers(KEPT, ALL, told_here[1]), ((YES, YES, NO),))
        self.assertEqual(told_here, before)


if __name__ == "__main__":
    unittest.main()

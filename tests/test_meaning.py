"""Points 4, 5, 6, B2 and B3: what programs tell."""

import copy
import itertools
import unittest

from bykindalone.errors import InvalidArguments, InvalidFilling, InvalidTerm, NotData, WrongTerm
from bykindalone.kinding import filled, kind_of
from bykindalone.kinds import is_kind
from bykindalone.meaning import told
from bykindalone.terms import is_written, parts_of, wrong_place
from bykindalone.text import read_kind, read_term
from bykindalone.values import is_value
from kinded import program_of
from made import value_from
from meant import NO, YES, given, meant, row_of
from things import A, B, C, NUM, UNIT, chain, odd_things

T = read_term
AS_NUM, AS_UNIT = (("a", NUM),), (("a", UNIT),)
BOTH = (("a", NUM), ("b", UNIT))
IDENTITY, IDENTITY_ON_NUMBERS = T("fn x: a. x"), T("fn x: num. x")

# A program, a filling, arguments (terms as texts), and what is told.
ROWS = (
    # name, fn, call
    ("fn x: a. x", AS_NUM, (3,), 3),
    ("fn x: a. x", (("a", ("list", NUM)),), ((3, 4),), (3, 4)),
    ("fn x: a. fn y: b. x", BOTH, (3, ()), 3),
    ("fn x: a. fn y: b. y", BOTH, (3, ()), ()),
    ("fn x: num. fn x: num. x", (), (1, 2), 2),
    ("fn x: num. (fn x: num. x)(x + 1) * 10 + x", (), (4,), 54),
    ("fn x: num. let f = fn y: num. x * 10 + y in (fn x: num. f(x))(7)", (), (4,), 47),
    ("fn x: num. let f = fn y: num. x * 10 + y in let x = 9 in f(x)", (), (4,), 49),
    ("(fn f: num -> num. fn y: num. f(f(y)))(fn x: num. x * x)", (), (3,), 81),
    ("(fn g: (num -> num) -> num -> num. g(g(fn x: num. x + 1)))(fn f: num -> num. fn y: num. f(f(y)))(0)", (), (), 4),
    ("let y = 1 in let f = fn x: num. x + y in let y = 100 in f(y)", (), (), 101),
    ("let k = fn x: num. fn y: num. x * 10 + y in let one = k(1) in let two = k(2) in (one(3), two(4))", (), (),
        ("pair", 13, 24)),
    ("fn f: num -> num. f(5)", (), ("fn x: num. x * x",), 25),
    ("fn f: (num -> num) -> num. f(fn x: num. x + 1)", (), ("fn g: num -> num. g(g(5))",), 7),
    ("fn f: a -> a. fn x: a. f(f(x))", AS_NUM, ("fn x: num. x * 3", 2), 18),
    ("fn f: a -> num. fn l: list a. fold(fn x: a. fn s: num. f(x) + s, 0, l)", AS_NUM, ("fn x: num. x * x", (1, 2, 3)), 14),
    # let
    ("let x = 3 in x + x", (), (), 6),
    ("let x = 3 in let x = x + 1 in x * x", (), (), 16),
    ("let x = let x = 2 in x + 1 in x * 10", (), (), 30),
    ("fn x: a. let y = (x, x) in (y, y)", AS_NUM, (1,), ("pair", ("pair", 1, 1), ("pair", 1, 1))),
    # unit, number, plus, times, minus
    ("()", (), (), ()),
    ("0", (), (), 0),
    ("-7", (), (), -7),
    ("2 + 3 * 4", (), (), 14),
    ("(2 + 3) * 4", (), (), 20),
    ("-(2 + 3) * -4 + 1", (), (), 21),
    ("- - 3", (), (), 3),
    ("fn x: num. x * x * x", (), (-10 ** 60,), -10 ** 180),
    ("fn x: num. -x", (), (0,), 0),
    # is
    ("1 < 2", (), (), YES), ("2 < 2", (), (), NO), ("3 < 2", (), (), NO),
    ("1 <= 2", (), (), YES), ("2 <= 2", (), (), YES), ("3 <= 2", (), (), NO),
    ("1 == 2", (), (), NO), ("2 == 2", (), (), YES), ("3 == 2", (), (), NO), ("-1 < 1", (), (), YES), ("1 < -1", (), (), NO),
    # pairs, sides
    ("(1, (2, ()))", (), (), ("pair", 1, ("pair", 2, ()))),
    ("first((1, 2))", (), (), 1), ("second((1, 2))", (), (), 2),
    ("fn p: (a, b). (second(p), first(p))", BOTH, (("pair", 1, ()),), ("pair", (), 1)),
    ("left(1, unit)", (), (), ("left", 1)), ("right(unit, 1)", (), (), ("right", 1)),
    ("fn x: a. left(right(num, x), unit)", AS_UNIT, ((),), ("left", ("right", ()))),
    # case
    ("case left(4, unit) {x. x + 1; y. 0}", (), (), 5),
    ("case right(unit, 4) {x. 0; y. y + 2}", (), (), 6),
    ("fn e: num | unit. fn x: num. case e {x. x; y. x}", (), (("left", 1), 2), 1),
    ("fn e: num | unit. fn x: num. case e {x. x; y. x}", (), (("right", ()), 2), 2),
    ("fn e: num | num. case e {x. x; x. -x}", (), (("right", 7),), -7),
    ("fn x: num. case x < 0 {u. -x; u. x}", (), (-4,), 4),
    ("fn e: a | b. case e {x. right(b, x); y. left(y, a)}", BOTH, (("left", 4),), ("right", 4)),
    ("case left(fn x: num. x + 1, num -> num) {f. f; f. f}", (), (5,), 6),
    # nil, cons, fold
    ("nil(num)", (), (), ()), ("cons(1, cons(2, nil(num)))", (), (), (1, 2)), ("nil(list a)", AS_NUM, (), ()),
    ("cons(nil(num), nil(list num))", (), (), ((),)),
    ("fn l: list num. fold(fn x: num. fn s: num. x + 10 * s, 0, l)", (), ((),), 0),
    ("fn l: list num. fold(fn x: num. fn s: num. x + 10 * s, 7, l)", (), ((),), 7),
    ("fn l: list num. fold(fn x: num. fn s: num. x + 10 * s, 0, l)", (), ((5,),), 5),
    ("fn l: list num. fold(fn x: num. fn s: num. x + 10 * s, 0, l)", (), ((1, 2, 3),), 321),
    ("fn l: list num. fold(fn x: num. fn s: num. x + -s, 0, l)", (), ((7, 2, 1),), 6),
    ("fn l: list a. fold(fn x: a. fn r: list a. cons(x, cons(x, r)), nil(a), l)", AS_NUM, ((5, 7),), (5, 5, 7, 7)),
    ("fn l: list a. fold(fn x: a. fn f: list a -> list a. fn r: list a. f(cons(x, r)), fn r: list a. r, l)(nil(a))",
     AS_NUM, ((1, 2, 3),), (3, 2, 1)),
    ("fn l: list (list a). fold(fn x: list a. fn r: list a. fold(fn y: a. fn s: list a. cons(y, s), r, x), nil(a), l)",
     AS_NUM, (((1, 2), (), (3,)),), (1, 2, 3)),
    ("fn l: list (num -> num). fold(fn f: num -> num. fn s: num. f(s), 1, l)", (),
     ("cons(fn x: num. x * 2, cons(fn x: num. x + 5, nil(num -> num)))",), 12),
    ("fn s: a -> b -> b. fn z: b. fn l: list a. fold(s, z, l)", (("a", NUM), ("b", NUM)),
     ("fn x: num. fn r: num. x + 10 * r", 0, (1, 2, 3)), 321),
    ("fn n: list unit. fn f: num -> num. fold(fn u: unit. fn g: num -> num. fn x: num. f(g(x)), fn x: num. x, n)(0)", (),
     (((), (), ()), "fn x: num. x + 2"), 6),
    # six arguments
    ("fn u: a. fn v: b. fn w: a. fn x: b. fn y: a. fn z: b. cons((u, v), cons((w, x), cons((y, z), nil((a, b)))))",
     BOTH, (1, (), 2, (), 3, ()), (("pair", 1, ()), ("pair", 2, ()), ("pair", 3, ()))),
    # a filling of more variables than there are, and a variable within the term alone
    ("fn x: a. x", (("a", NUM), ("b", UNIT), ("c", NUM)), (3,), 3),
    ("3", (("b", UNIT),), (), 3),
    ("fn x: a. case left(x, b) {u. u; v. x}", AS_NUM, (3,), 3),
    ("fn x: a. case left(x, b) {u. u; v. x}", BOTH, (3,), 3),
    ("case left(1, c) {x. x; y. 2}", (), (), 1),
    ("let f = fn x: c. x in 5", (), (), 5),
    ("let f = fn x: c. x in 5", (("c", NUM),), (), 5),
    ("fold(fn x: b. fn s: num. s + 1, 4, nil(b))", (), (), 4),
)
STEP = "fn x: num. fn r: list num. cons(x * x, cons(-x, r))"


def handed(arguments):
    """The arguments with terms in the place of texts."""
    return tuple(T(part) if isinstance(part, str) else part for part in arguments)


class TestRows(unittest.TestCase):
    def test_each_row(self):
        for text, filling, arguments, answer in ROWS:
            with self.subTest(text):
                term = T(text)
                self.assertEqual(told(term, filling, handed(arguments)), answer)
                self.assertEqual(told(arguments=handed(arguments), program=term, filling=filling), answer)

    def test_each_word_is_asked(self):
        words = set()
        for text, _, _, _ in ROWS:
            waiting = [T(text)]
            while waiting:
                part = waiting.pop()
                words.add(part[0])
                waiting += [below for below in part[1:] if isinstance(below, tuple)]
        for word in ("name fn call let unit number plus times minus is pair first second left right case nil cons fold").split():
            self.assertIn(word, words)

    def test_a_step_tells_the_same_wherever_it_stands(self):
        within = T(f"fn l: list num. fold({STEP}, nil(num), l)")
        named = T(f"fn l: list num. let s = {STEP} in fold(s, nil(num), l)")
        made = T(f"fn l: list num. (fn s: num -> list num -> list num. fold(s, nil(num), l))({STEP})")
        asked = T("fn s: num -> list num -> list num. fn l: list num. fold(s, nil(num), l)")
        any_kind = T("fn s: a -> b -> b. fn z: b. fn l: list a. fold(s, z, l)")
        filling = (("a", NUM), ("b", ("list", NUM)))
        for row in ((), (3,), (3, 1, 2), (0, 0), tuple(range(-6, 7))):
            answer = tuple(part for x in row for part in (x * x, -x))
            for program in (within, named, made):
                self.assertEqual(told(program, (), (row,)), answer)
            self.assertEqual(told(asked, (), (T(STEP), row)), answer)
            self.assertEqual(told(any_kind, filling, (T(STEP), (), row)), answer)

    def test_a_step_of_functions_of_functions(self):
        # Each thing makes of a function of functions another one, which puts its argument through once more.
        text = (
            "fn l: list num. fold(fn x: num. fn h: (num -> num) -> num -> num. fn f: num -> num. fn y: num. h(f)(f(y) + x), "
            "fn f: num -> num. f, l)(fn z: num. z * 2)(1)"
        )
        # By hand: of () it is f, so 2. Of (5,) h is the start, y is 1: f(f(1) + 5) = f(7) = 14. Of (5, 3): h is that of
        # (3,), so h(f)(f(1) + 5) = h(f)(7) = f(f(7) + 3) = f(17) = 34.
        for row, answer in (((), 2), ((5,), 14), ((5, 3), 34)):
            self.assertEqual(told(T(text), (), (row,)), answer)

    def test_what_leads_a_step_to_a_step_leads_a_fold_to_a_fold(self):
        # h of z is w, and h of what f tells of x and r is what g tells of x and of h of r.
        rows = (
            ("fn x: num. fn r: list num. cons(x, cons(x, r))", "nil(num)", "fn x: num. fn n: num. n + 2 * x", "0",
                "fn r: list num. fold(fn x: num. fn n: num. x + n, 0, r)"),
            ("fn x: num. fn n: num. x + n", "1", "fn x: num. fn n: num. 3 * x + n", "3", "fn n: num. n * 3"),
            ("fn x: num. fn r: list num. cons(-x, r)", "nil(num)",
                "fn x: num. fn e: unit | unit. case x < 0 {u. left(u, unit); u. e}", "right(unit, ())",
             "fn r: list num. fold(fn x: num. fn e: unit | unit. case 0 < x {u. left(u, unit); u. e}, right(unit, ()), r)"),
            ("fn x: num. fn p: (num, num). (second(p), first(p) + x)", "(1, 2)", "fn x: num. fn n: num. n + x", "3",
                "fn p: (num, num). first(p) + second(p)"),
        )
        for f, z, g, w, h in rows:
            here, there = T(f"fn l: list num. ({h})(fold({f}, {z}, l))"), T(f"fn l: list num. fold({g}, {w}, l)")
            for length in range(5):
                for row in itertools.product((-2, 0, 5), repeat=length):
                    self.assertEqual(told(here, (), (row,)), told(there, (), (row,)))

    def test_folds_of_many_things(self):
        total = T("fn l: list num. fold(fn x: num. fn s: num. x + s, 0, l)")
        self.assertEqual(told(total, (), (tuple(range(10000)),)), 49995000)
        same = T("fn l: list a. fold(fn x: a. fn r: list a. cons(x, r), nil(a), l)")
        row = tuple(range(5000))
        self.assertEqual(told(same, AS_NUM, (row,)), row)

    def test_meanings_that_stand_60_deep_within_one_another(self):
        back = T("fn l: list a. fold(fn x: a. fn f: list a -> list a. fn r: list a. f(cons(x, r)), fn r: list a. r, l)(nil(a))")
        row = tuple(range(60))
        self.assertEqual(told(back, AS_NUM, (row,)), row[::-1])
        many = T("fn n: list unit. fn f: num -> num. fold(fn u: unit. fn g: num -> num. fn x: num. f(g(x)), fn x: num. x, n)(0)")
        self.assertEqual(told(many, (), (((),) * 50, T("fn x: num. x + 2"))), 100)

    def test_a_program_16_deep(self):
        deep = chain(lambda part: ("minus", part), ("number", 1), 16)
        self.assertEqual(told(deep, (), ()), -1)

    def test_reckoning_of_numbers_of_many_figures(self):
        big = 10 ** 199 + 7
        program = T("fn x: num. fn y: num. (x * y, (x + y, (-x, (x < y, (x <= y, x == y)))))")
        for x, y in itertools.product((big, -big, big + 1, 0), repeat=2):
            first = ("pair", YES if x <= y else NO, YES if x == y else NO)
            rest = ("pair", -x, ("pair", YES if x < y else NO, first))
            self.assertEqual(told(program, (), (x, y)), ("pair", x * y, ("pair", x + y, rest)))


class TestCounted(unittest.TestCase):
    KINDS = (
        "num", "num -> num", "list a -> num", "list a -> list a", "list num -> num | list num", "num -> list a -> list (a, num)",
        "(a, b) -> list a -> list b -> list (a | b)", "a | num -> unit -> (a | list num)", "list (list c) -> list c",
    )
    FILLING = (("a", NUM), ("b", ("list", UNIT)), ("c", ("either", NUM, UNIT)))

    def test_counted_programs_tell_what_they_mean(self):
        ran = 0
        for text in self.KINDS:
            kind = ("fun", A, ("fun", B, ("fun", C, read_kind(text))))
            asked, left = row_of(filled(kind, self.FILLING))
            for number in range(1, 400):
                program = program_of(kind[2][2][2], number * number * 7919 + (number ** 9 << 20), 5)
                if not is_written(program):
                    continue
                self.assertEqual(kind_of((), program), kind)
                arguments = tuple(value_from(part, number * 31 + at) for at, part in enumerate(asked))
                answer = told(program, self.FILLING, arguments)
                self.assertEqual(answer, given(meant(program), arguments), program)
                self.assertTrue(is_value(left, answer))
                self.assertEqual(told(program, self.FILLING, arguments), answer)
                ran += 1
        self.assertGreater(ran, 2000)

    def test_counted_programs_with_functions_handed_to_them(self):
        kind = read_kind("a -> b -> c -> (a -> b) -> (b -> a -> b) -> list b -> (b, list b)")
        asked, left = row_of(filled(kind, self.FILLING))
        ones = [T(text) for text in (
            "fn x: num. nil(unit)", "fn x: num. cons((), cons((), nil(unit)))",
            "fn n: num. case n < 3 {x. cons(x, nil(unit)); x. nil(unit)}",
        )]
        twos = [T(text) for text in (
            "fn l: list unit. fn n: num. l", "fn l: list unit. fn n: num. cons((), l)",
            "fn l: list unit. (fn k: num -> list unit. k)(fn n: num. l)",
            "fn l: list unit. fn n: num. fold(fn u: unit. fn r: list unit. cons(u, cons(u, r)), nil(unit), l)",
        )]
        ran = 0
        for number in range(1, 600):
            program = program_of(kind[2][2][2], number * number * 7919 + (number ** 9 << 15), 5)
            if not is_written(program):
                continue
            plain = [value_from(part, number + at) for at, part in enumerate(asked[:3])]
            handed_on = [ones[number % len(ones)], twos[number % len(twos)]]
            last = value_from(asked[5], number)
            answer = told(program, self.FILLING, tuple(plain + handed_on + [last]))
            self.assertEqual(answer, given(meant(program), plain + [meant(term) for term in handed_on] + [last]))
            self.assertTrue(is_value(left, answer))
            ran += 1
        self.assertGreater(ran, 300)


class TestErrors(unittest.TestCase):
    def raises(self, error, kept, program, filling, arguments):
        for ask in (lambda: told(program, filling, arguments),
            lambda: told(arguments=arguments, filling=filling, program=program)):
            with self.assertRaises(error) as caught:
                ask()
            self.assertIs(type(caught.exception), error)
            self.assertEqual(list(vars(caught.exception).values()), [kept])

    def test_no_terms(self):
        odd = [thing for thing in odd_things() if not is_written(thing)]
        self.assertGreater(len(odd), 100)
        for thing in odd:
            with self.assertRaises(InvalidTerm) as caught:
                told(thing, (), ())
            self.assertEqual(caught.exception.place, wrong_place(thing, 16, 6))
        self.raises(InvalidTerm, (3, 1), ("fn", "x", A, ("name", "fn")), None, None)
        self.raises(InvalidTerm, (2,), ("fn", "x", ("var", "d"), ("name", "x")), (), ())

    def test_no_terms_as_written(self):
        self.raises(InvalidTerm, (1,) * 16, chain(lambda part: ("minus", part), ("number", 1), 17), None, ())
        kind = chain(lambda part: ("list", part), NUM, 7)
        self.raises(InvalidTerm, (1,), ("nil", kind), (), ())
        self.assertEqual(told(("nil", kind[1]), (), ()), ())
        sevens = chain(lambda part: ("pair", part, part), ("unit",), 6)
        self.assertEqual(parts_of(sevens), 63)
        many = ("pair", sevens, ("pair", chain(lambda part: ("pair", part, part), ("unit",), 5),
            ("pair", ("minus", ("number", 1)), chain(
            lambda part: ("pair", part, part), ("unit",), 4))))
        self.assertEqual(parts_of(many), 114)
        fitting = ("first", ("first", ("pair", ("pair", many, ("unit",)), ("unit",))))
        self.assertEqual(parts_of(fitting), 120)
        self.assertEqual(told(fitting, (), ()), meant(many))
        self.raises(InvalidTerm, (), ("first", ("pair", fitting, ("unit",))), (), ())
        self.raises(InvalidTerm, (), ("pair", fitting[1], ("minus", ("number", 1))), None, None)

    def test_terms_without_a_kind(self):
        self.raises(WrongTerm, (), ("name", "x"), (), ())
        self.raises(WrongTerm, (3, 1), T("fn x: a. x + 1"), None, None)
        self.raises(WrongTerm, (2,), T("(fn x: num. x)(())"), 5, ())

    def test_fillings(self):
        for filling in (None, [], [("a", NUM)], "a", {"a": NUM}, {("a", NUM)}, 0, True):
            self.raises(InvalidFilling, None, IDENTITY, filling, None)
        wrong = (
            (("a",),), (("a", NUM, NUM),), (["a", NUM],), (("d", NUM),), (("a", A),), (("a", ("fun", NUM, NUM)),),
            (("a", ("num", "num")),), (("a", None),), (None,), ((True, NUM),), (("", NUM),),
        )
        for filling in wrong:
            self.raises(InvalidFilling, 0, IDENTITY, filling, (1, 2))
        self.raises(InvalidFilling, 1, IDENTITY, (("a", NUM), ("a", NUM)), (1,))
        self.raises(InvalidFilling, 1, IDENTITY, (("b", NUM), ("a", NUM)), (1,))
        self.raises(InvalidFilling, 2, IDENTITY, (("a", NUM), ("b", NUM), ("c", B)), (1,))
        self.raises(InvalidFilling, 3, IDENTITY, (("a", NUM), ("b", NUM), ("c", NUM), ("d", NUM)), (1,))
        for thing in odd_things():
            self.raises(InvalidFilling, 0, IDENTITY, (thing,), (1,))
            self.raises(InvalidFilling, 0, IDENTITY, ((thing, NUM, NUM),), (1,))
            if not is_kind(thing):
                self.raises(InvalidFilling, 0, IDENTITY, (("a", thing),), (1,))
            if thing != "a":
                self.raises(InvalidFilling, 0, IDENTITY, ((thing, NUM),), (1,))
            if not isinstance(thing, tuple):
                self.raises(InvalidFilling, None, IDENTITY, thing, (1,))

    def test_arguments(self):
        for arguments in (None, [], [3], 3, "3", {}, {3}, iter((3,)), True):
            self.raises(InvalidArguments, None, IDENTITY, AS_NUM, arguments)
        two = T("fn x: a. fn l: list num. fn y: b. (x, (l, y))")
        filling = (("a", NUM), ("b", UNIT))
        self.assertEqual(told(two, filling, (1, (2,), ())), ("pair", 1, ("pair", (2,), ())))
        self.raises(InvalidArguments, 0, two, filling, ((), (2,), ()))
        self.raises(InvalidArguments, 0, two, filling, (True, [2], 3))
        self.raises(InvalidArguments, 1, two, filling, (1, [2], ()))
        self.raises(InvalidArguments, 1, two, filling, (1, (2, True), 4, 5))
        self.raises(InvalidArguments, 2, two, filling, (1, (2,), 3))
        self.raises(InvalidArguments, 3, two, filling, (1, (2,), (), ()))
        self.raises(InvalidArguments, 3, two, filling, (1, (2,), (), (), None))
        self.raises(InvalidArguments, 0, T("5"), (), (1,))
        self.raises(InvalidArguments, 0, T("nil(num -> num)"), (), (1,))
        for thing in odd_things():
            if not isinstance(thing, int) or isinstance(thing, bool):
                self.raises(InvalidArguments, 0, IDENTITY, AS_NUM, (thing,))
            self.raises(InvalidArguments, 1, IDENTITY, AS_NUM, (0, thing))

    def test_arguments_for_which_a_variable_is_not_filled(self):
        self.raises(InvalidArguments, 0, IDENTITY, (), (3,))
        self.raises(InvalidArguments, 0, IDENTITY, (("b", NUM),), (3,))
        two = T("fn x: a. fn y: b. x")
        self.raises(InvalidArguments, 1, two, AS_NUM, (3, 3))
        self.raises(InvalidArguments, 0, two, (("b", NUM),), (3, 3))
        self.raises(InvalidArguments, 0, T("fn l: list a. l"), (), ((),))
        self.raises(InvalidArguments, 0, T("fn f: a -> a. 3"), (), (IDENTITY,))
        self.raises(InvalidArguments, 0, T("fn f: num -> a. 3"), (), (T("fn x: num. x"),))

    def test_arguments_of_functions_kinds(self):
        program = T("fn f: a -> num. f")
        asks = T("fn f: a -> num. fn x: a. f(x)")
        good = T("fn x: num. x")
        self.assertEqual(told(asks, AS_NUM, (good, 4)), 4)
        wrong = (
            T("fn x: unit. 3"), T("fn x: a. 3"), T("fn x: num. ()"), T("fn x: num. y"), T("3"), T("fn x: num. x(x)"), 3, (), None,
            "fn x: num. x",
            ("fn", "x", NUM, ("name", "fn")), ["fn", "x", NUM, ("name", "x")], len, lambda x: x,
            ("fn", "x", NUM, chain(lambda part: ("minus", part), ("name", "x"), 16)),
        )
        for thing in wrong:
            self.raises(InvalidArguments, 0, asks, AS_NUM, (thing, 4))
            self.raises(InvalidArguments, 0, program, AS_NUM, (thing, 4))
        fits = ("fn", "x", NUM, chain(lambda part: ("minus", part), ("name", "x"), 15))
        self.assertEqual(told(asks, AS_NUM, (fits, 4)), 4)
        for thing in odd_things():
            self.raises(InvalidArguments, 0, asks, AS_NUM, (thing, 4))

    def test_a_variable_in_a_handed_term_alone_needs_no_filling(self):
        asks = T("fn f: num -> num. f(3)")
        self.assertEqual(told(asks, (), (T("fn x: num. case left(x, b) {u. u + 1; v. 0}"),)), 4)

    def test_a_term_has_the_filled_kind_only_if_it_is_equal(self):
        asks = T("fn f: a -> a. f")
        self.assertEqual(told(asks, AS_NUM, (T("fn x: num. x + 1"), 3)), 4)
        self.raises(InvalidArguments, 0, asks, AS_NUM, (IDENTITY, 3))
        self.raises(InvalidArguments, 0, asks, AS_UNIT, (T("fn x: num. x + 1"), 3))

    def test_what_is_left_has_to_be_a_closed_data_kind(self):
        self.raises(NotData, ("fun", NUM, NUM), IDENTITY_ON_NUMBERS, (), ())
        self.raises(NotData, ("fun", NUM, NUM), IDENTITY, AS_NUM, ())
        self.raises(NotData, ("fun", A, A), IDENTITY, (), ())
        self.raises(NotData, ("list", A), T("nil(a)"), (), ())
        self.raises(NotData, ("list", A), T("nil(a)"), (("b", NUM),), ())
        self.raises(NotData, ("list", B), T("fn x: a. nil(b)"), AS_NUM, (3,))
        self.raises(NotData, ("fun", ("list", C), NUM), T("fn l: list c. 3"), AS_NUM, ())
        self.raises(NotData, ("list", ("fun", NUM, NUM)), T("nil(num -> num)"), (), ())
        self.raises(NotData, ("pair", NUM, ("fun", UNIT, NUM)), T("fn x: a. (x, fn y: b. x)"), BOTH, (3,))
        self.raises(NotData, ("either", NUM, B), T("fn x: a. left(x, b)"), AS_NUM, (3,))
        self.raises(NotData, ("fun", UNIT, NUM), T("fn x: a. fn y: b. x"), BOTH, (3,))

    def test_the_first_wrong_argument_is_told(self):
        bad_term, no_kind, bad_filling, bad_arguments = ("fn",), ("name", "x"), (("d", NUM),), [3]
        self.raises(InvalidTerm, (), bad_term, bad_filling, bad_arguments)
        self.raises(WrongTerm, (), no_kind, bad_filling, bad_arguments)
        self.raises(InvalidFilling, 0, IDENTITY, bad_filling, bad_arguments)
        self.raises(InvalidArguments, None, IDENTITY, (), bad_arguments)
        self.raises(InvalidArguments, 0, T("fn x: num. nil(a)"), (), ((),))
        self.raises(NotData, ("list", A), T("fn x: num. nil(a)"), (), (3,))

    def test_nothing_that_was_passed_is_changed(self):
        for text, filling, arguments, answer in ROWS:
            term, things = T(text), handed(arguments)
            before = copy.deepcopy((term, filling, things))
            self.assertEqual(told(term, filling, things), answer)
            self.assertEqual((term, filling, things), before)


if __name__ == "__main__":
    unittest.main()

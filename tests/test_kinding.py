"""Points 4, 5, 6, A1 and B1: kinds that are filled, contexts, and the kinds of terms in them."""

import copy
import itertools
import unittest

from bykindalone.errors import InvalidContext, InvalidFilling, InvalidKind, InvalidTerm, WrongTerm
from bykindalone.kinding import filled, kind_of
from bykindalone.kinds import TRUTH, is_data_kind, is_kind, variables_of
from kinded import NAMES, POOL, found, term_of, turned_kind, turned_term
from made import FORMS, kind_from, name_from, term_from, wrapped
from things import A, B, C, NUM, UNIT, Unhashable, chain, deep_things, odd_things

X, Y, Z, N, M, L, R, F, G, P, E = [("name", name) for name in "xyznmlrfgpe"]
ONE, UNITS = ("number", 1), ("unit",)
NO = ("name", "nothere")

# With these names each row of the document is asked: things of two variables, numbers, lists, functions, pairs, sides.
CONTEXT = (
    ("x", A), ("y", B), ("z", A), ("n", NUM), ("m", NUM), ("l", ("list", A)), ("r", ("list", NUM)), ("f", ("fun", A, NUM)),
    ("g", ("fun", A, ("fun", B, B))), ("p", ("pair", A, B)), ("e", ("either", A, B)),
)
# Each term beside its kind, or beside the path to what is wrong first.
ROWS = (
    # name
    (X, A), (N, NUM), (G, ("fun", A, ("fun", B, B))), (NO, ()),
    # fn
    (("fn", "q", A, ("name", "q")), ("fun", A, A)), (("fn", "q", A, Y), ("fun", A, B)), (("fn", "x", NUM, X), ("fun", NUM, NUM)),
    (("fn", "q", ("fun", A, B), ("call", ("name", "q"), X)), ("fun", ("fun", A, B), B)), (("fn", "q", A, NO), (3,)),
    (("fn", "q", A, ("fn", "q", B, ("name", "q"))), ("fun", A, ("fun", B, B))), (("fn", "f", NUM, ("call", F, X)), (3, 1)),
    # call
    (("call", F, X), NUM), (("call", F, Z), NUM), (("call", G, X), ("fun", B, B)), (("call", ("call", G, X), Y), B),
    (("call", X, X), (1,)), (("call", N, X), (1,)), (("call", L, X), (1,)), (("call", P, X), (1,)), (("call", F, Y), (2,)),
    (("call", F, N), (2,)), (("call", F, L), (2,)), (("call", ("call", G, X), X), (2,)), (("call", ("call", G, Y), Y), (1, 2)),
    (("call", NO, X), (1,)), (("call", F, NO), (2,)), (("call", NO, NO), (1,)), (("call", X, NO), (2,)), (("call", X, Y), (1,)),
    (("call", ("fn", "q", A, ONE), X), NUM), (("call", ("fn", "q", A, ONE), ONE), (2,)),
    # let
    (("let", "q", X, ("name", "q")), A), (("let", "q", X, Y), B), (("let", "x", N, X), NUM), (("let", "x", X, X), A),
    (("let", "q", NO, ("name", "q")), (2,)), (("let", "q", X, NO), (3,)), (("let", "q", ("name", "q"), ONE), (2,)),
    (("let", "q", NO, NO), (2,)), (("let", "q", N, ("plus", ("name", "q"), M)), NUM), (("let", "n", X, ("plus", N, M)), (3, 1)),
    (("let", "f", ("fn", "q", B, ("name", "q")), ("call", F, Y)), B), (("let", "f", ("fn", "q", B, X), ("call", F, X)), (3, 2)),
    # unit, number
    (UNITS, UNIT), (ONE, NUM), (("number", -10 ** 399), NUM),
    # plus, times, minus
    (("plus", N, M), NUM), (("times", N, ONE), NUM), (("minus", N), NUM), (("plus", X, N), (1,)), (("plus", N, X), (2,)),
    (("plus", X, X), (1,)), (("plus", X, NO), (2,)), (("plus", NO, NO), (1,)), (("plus", NO, X), (1,)), (("times", X, N), (1,)),
    (("times", N, UNITS), (2,)), (("times", UNITS, X), (1,)), (("times", L, NO), (2,)), (("minus", X), (1,)), (("minus", NO), (1,)),
    (("minus", UNITS), (1,)), (("plus", ("plus", N, X), X), (1, 2)), (("plus", X, ("plus", N, X)), (2, 2)),
    (("minus", ("minus", ("minus", F))), (1, 1, 1)),
    # is
    (("is", "<", N, M), TRUTH), (("is", "<=", N, ONE), TRUTH), (("is", "==", ONE, ONE), TRUTH), (("is", "<", X, N), (2,)),
    (("is", "<=", N, X), (3,)), (("is", "==", X, Z), (2,)), (("is", "==", UNITS, UNITS), (2,)), (("is", "<", X, NO), (3,)),
    (("is", "<", NO, NO), (2,)), (("is", "==", ("is", "<", N, N), N), (2,)),
    # pair, first, second
    (("pair", X, N), ("pair", A, NUM)), (("pair", N, X), ("pair", NUM, A)), (("pair", NO, X), (1,)), (("pair", X, NO), (2,)),
    (("pair", NO, NO), (1,)), (("first", P), A), (("second", P), B), (("first", ("pair", N, X)), NUM), (("second", ("pair", N, X)), A),
    (("first", X), (1,)), (("second", E), (1,)), (("first", L), (1,)), (("second", F), (1,)), (("first", NO), (1,)),
    (("first", ("second", P)), (1,)), (("first", ("first", X)), (1, 1)),
    # left, right
    (("left", X, NUM), ("either", A, NUM)), (("right", NUM, X), ("either", NUM, A)), (("left", NO, NUM), (1,)), (("right", NUM, NO), (2,)),
    (("left", X, A), ("either", A, A)), (("right", ("fun", A, B), P), ("either", ("fun", A, B), ("pair", A, B))),
    # case
    (("case", E, "q", ONE, "q", N), NUM), (("case", E, "q", ("name", "q"), "q", X), A), (("case", E, "q", Y, "q", ("name", "q")), B),
    (("case", E, "q", ("name", "q"), "q", ("name", "q")), (5,)), (("case", E, "x", X, "y", Y), (5,)), (("case", E, "y", Y, "x", X), (5,)),
    (("case", E, "y", Y, "y", X), A), (("case", E, "q", X, "q", N), (5,)), (("case", X, "q", ONE, "q", ONE), (1,)),
    (("case", P, "q", ONE, "q", ONE), (1,)), (("case", L, "q", ONE, "q", ONE), (1,)), (("case", X, "q", NO, "q", NO), (1,)),
    (("case", N, "q", ("minus", X), "q", Y), (1,)), (("case", NO, "q", NO, "q", NO), (1,)), (("case", E, "q", NO, "q", NO), (3,)),
    (("case", E, "q", ONE, "q", NO), (5,)), (("case", E, "q", X, "r", ("name", "q")), (5,)), (("case", E, "q", ("name", "r2"), "r2", X), (3,)),
    (("case", E, "q", X, "q", ("minus", X)), (5, 1)), (("case", ("is", "<", N, M), "q", X, "q", Z), A),
    (("case", ("is", "<", N, M), "q", ("name", "q"), "r", ("name", "r")), UNIT), (("case", ("first", X), "q", NO, "q", NO), (1, 1)),
    # nil, cons
    (("nil", NUM), ("list", NUM)), (("nil", ("fun", A, B)), ("list", ("fun", A, B))), (("cons", X, L), ("list", A)),
    (("cons", N, R), ("list", NUM)), (("cons", X, ("nil", A)), ("list", A)), (("cons", X, R), (2,)), (("cons", N, L), (2,)),
    (("cons", X, X), (2,)), (("cons", X, ("nil", B)), (2,)), (("cons", X, P), (2,)), (("cons", NO, L), (1,)), (("cons", X, NO), (2,)),
    (("cons", NO, NO), (1,)), (("cons", L, ("nil", ("list", A))), ("list", ("list", A))), (("cons", L, L), (2,)),
    # fold
    (("fold", G, Y, L), B), (("fold", G, X, L), (2,)), (("fold", G, Y, R), (3,)), (("fold", G, Y, X), (3,)), (("fold", F, Y, L), (1,)),
    (("fold", X, Y, L), (1,)), (("fold", P, Y, L), (1,)), (("fold", X, X, X), (1,)), (("fold", G, X, X), (2,)), (("fold", NO, Y, L), (1,)),
    (("fold", G, NO, L), (2,)), (("fold", G, Y, NO), (3,)), (("fold", X, NO, NO), (2,)), (("fold", X, X, NO), (3,)),
    (("fold", ("fn", "q", A, ("fn", "s", NUM, ("plus", ("name", "s"), ONE))), ONE, L), NUM),
    (("fold", ("fn", "q", A, ("fn", "s", NUM, X)), ONE, L), (1,)), (("fold", ("fn", "q", A, ("fn", "s", NUM, X)), X, L), (1,)),
    (("fold", ("fn", "q", NUM, ("fn", "s", NUM, ONE)), ONE, L), (3,)),
)
FILLINGS = (
    (), (("a", NUM),), (("b", NUM),), (("c", ("list", UNIT)),), (("a", NUM), ("b", UNIT)), (("a", TRUTH), ("c", ("pair", NUM, NUM))),
    (("a", ("list", NUM)), ("b", ("either", NUM, UNIT)), ("c", UNIT)), (("b", NUM), ("c", NUM)),
)


class TestRows(unittest.TestCase):
    def test_each_row(self):
        for term, told in ROWS:
            with self.subTest(term):
                if told and isinstance(told[0], str):
                    self.assertEqual(kind_of(CONTEXT, term), told)
                    self.assertEqual(kind_of(term=term, context=CONTEXT), told)
                else:
                    for ask in (lambda: kind_of(CONTEXT, term), lambda: kind_of(term=term, context=CONTEXT)):
                        with self.assertRaises(WrongTerm) as caught:
                            ask()
                        self.assertIs(type(caught.exception), WrongTerm)
                        self.assertEqual(caught.exception.place, told)

    def test_each_row_within_each_other_one(self):
        names = dict(CONTEXT)
        for term, told in ROWS:
            if told and isinstance(told[0], str):
                continue
            for whole, _, _ in wrapped(term):
                with self.assertRaises(WrongTerm) as caught:
                    kind_of(CONTEXT, whole)
                self.assertEqual(caught.exception.place, found(names, whole)[1])

    def test_each_word_is_asked(self):
        good = {term[0] for term, told in ROWS if told and isinstance(told[0], str)}
        wrong = {term[0] for term, told in ROWS if not told or not isinstance(told[0], str)}
        self.assertEqual(good, set(FORMS))
        self.assertEqual(wrong, set(FORMS) - {"unit", "number", "nil"})

    def test_kinds_are_the_same_only_if_they_are_equal(self):
        kinds = [A, B, C, NUM, UNIT, ("list", A), ("list", B), ("pair", A, B), ("pair", B, A), ("either", A, B), ("fun", A, B), ("list", NUM)]
        for one, two in itertools.product(kinds, repeat=2):
            context = (("f", ("fun", one, NUM)), ("x", two), ("l", ("list", one)), ("e", TRUTH), ("y", one))
            for term, path in ((("call", F, X), (2,)), (("cons", X, L), (2,)), (("case", E, "q", Y, "r", X), (5,))):
                if one == two:
                    self.assertTrue(is_kind(kind_of(context, term)))
                else:
                    with self.assertRaises(WrongTerm) as caught:
                        kind_of(context, term)
                    self.assertEqual(caught.exception.place, path)

    def test_a_unit_and_a_truth_are_no_lists_and_no_numbers(self):
        for kind in (UNIT, TRUTH, A, ("list", NUM), ("pair", NUM, NUM), ("either", NUM, NUM), ("fun", NUM, NUM)):
            for term, path in ((("minus", X), (1,)), (("plus", ONE, X), (2,)), (("is", "<", X, ONE), (2,))):
                with self.assertRaises(WrongTerm) as caught:
                    kind_of((("x", kind),), term)
                self.assertEqual(caught.exception.place, path)

    def test_names_that_are_hidden_are_there_again_behind(self):
        self.assertEqual(kind_of((("x", A),), ("pair", ("fn", "x", B, X), X)), ("pair", ("fun", B, B), A))
        self.assertEqual(kind_of((("x", A),), ("pair", ("let", "x", ONE, X), X)), ("pair", NUM, A))
        self.assertEqual(kind_of((("x", A), ("e", TRUTH)), ("pair", ("case", E, "x", X, "x", X), X)), ("pair", UNIT, A))
        self.assertEqual(kind_of((), ("fn", "x", A, ("pair", ("fn", "x", B, X), X))), ("fun", A, ("pair", ("fun", B, B), A)))

    def test_deep_terms(self):
        for wrap, last, kind in (
            (lambda term: ("minus", term), ONE, NUM), (lambda term: ("plus", ONE, term), ONE, NUM), (lambda term: ("let", "q", term, X), ONE, A),
            (lambda term: ("fn", "q", A, term), X, chain(lambda part: ("fun", A, part), A, 100)),
            (lambda term: ("case", E, "q", X, "q", term), X, A), (lambda term: ("cons", X, term), ("nil", A), ("list", A)),
            (lambda term: ("left", term, A), X, chain(lambda part: ("either", part, A), A, 100)),
            (lambda term: ("fold", G, term, L), Y, B), (lambda term: ("first", ("pair", term, X)), X, A),
        ):
            # Of first and pair each step is two levels.
            levels = 50 if wrap(X)[0] == "first" else 100
            self.assertEqual(kind_of(CONTEXT, chain(wrap, last, levels)), kind)
        wrong = chain(lambda term: ("plus", ONE, term), X, 100)
        with self.assertRaises(WrongTerm) as caught:
            kind_of((("x", UNIT),), wrong)
        self.assertEqual(caught.exception.place, (2,) * 99)


class TestMany(unittest.TestCase):
    def told(self, names, term):
        kind, wrong = found(names, term)
        context = tuple(names.items())
        if wrong is None:
            self.assertEqual(kind_of(context, term), kind)
        else:
            with self.assertRaises(WrongTerm) as caught:
                kind_of(context, term)
            self.assertEqual(caught.exception.place, wrong)
        return kind

    def made(self, many):
        for at, kind in enumerate(POOL):
            for number in range(many):
                yield kind, term_of(kind, NAMES, number * 7919 + number * number * 104729 + at, 6)

    def test_counted_terms(self):
        for number in range(20000):
            self.told(NAMES, term_from(number))

    def test_terms_that_are_made_to_have_a_kind(self):
        for kind, term in self.made(250):
            self.assertEqual(self.told(NAMES, term), kind)

    def test_a_part_put_for_another_one(self):
        others = [ONE, UNITS, ("name", "x"), NO, ("nil", A), ("first", ONE), ("name", "f"), ("pair", ONE, UNITS), ("left", ONE, B)]
        wrong = 0
        for count, (_, term) in enumerate(self.made(60)):
            for at, path in enumerate(paths_of(term)):
                changed = with_at(term, path, others[(count + at) % len(others)])
                wrong += self.told(NAMES, changed) is None
        self.assertGreater(wrong, 3000)

    def test_any_kinds_put_in_for_the_variables(self):
        puts = (
            {"a": NUM}, {"a": B}, {"a": B, "b": A}, {"b": ("fun", A, C)}, {"a": ("list", A), "c": UNIT},
            {"a": ("fun", NUM, NUM), "b": ("pair", C, B), "c": TRUTH}, {"a": NUM, "b": NUM, "c": NUM},
        )
        for kind, term in self.made(60):
            for put in puts:
                context = tuple((name, turned_kind(told, put)) for name, told in NAMES.items())
                self.assertEqual(kind_of(context, turned_term(term, put, FORMS)), turned_kind(kind, put))

    def test_fillings_of_terms_with_a_kind(self):
        for kind, term in self.made(60):
            for filling in FILLINGS:
                context = tuple((name, filled(told, filling)) for name, told in NAMES.items())
                self.assertEqual(kind_of(context, turned_term(term, dict(filling), FORMS)), filled(kind, filling))

    def test_names_that_are_not_asked_change_nothing(self):
        for kind, term in self.made(40):
            more = (("q9", A), ("x8", ("fun", A, A))) + tuple(NAMES.items()) + (("y8", NUM),)
            self.assertEqual(kind_of(more, term), kind)

    def test_a_second_call_tells_the_same(self):
        for kind, term in self.made(20):
            self.assertEqual(kind_of(tuple(NAMES.items()), term), kind)
            self.assertEqual(kind_of(tuple(NAMES.items()), term), kind)


class TestContexts(unittest.TestCase):
    def refused(self, context, index, term=X):
        for ask in (lambda: kind_of(context, term), lambda: kind_of(term=term, context=context)):
            with self.assertRaises(InvalidContext) as caught:
                ask()
            self.assertIs(type(caught.exception), InvalidContext)
            self.assertEqual(caught.exception.index, index)
            self.assertIs(type(caught.exception.index), type(index))

    def test_up_to_forty_pairs(self):
        for many in (0, 1, 2, 39, 40):
            context = tuple((name_from(number), NUM) for number in range(many))
            self.assertEqual(kind_of(context, ONE), NUM)
            if many:
                self.assertEqual(kind_of(context, ("name", name_from(many - 1))), NUM)
                self.assertEqual(kind_of(context, ("name", name_from(0))), NUM)
        for many in (41, 42, 100):
            self.refused(tuple((name_from(number), NUM) for number in range(many)), None, ONE)
            self.refused((("x", A),) * many, None)
            self.refused((None,) * many, None)
        self.assertEqual(kind_of((("x", A),) * 40, X), A)

    def test_more_names_within_than_forty(self):
        context = tuple((name_from(number), NUM) for number in range(40))
        self.assertEqual(kind_of(context, chain(lambda term: ("let", "q", ONE, ("fn", "q1", A, term)), X, 40))[0], "fun")
        term = ONE
        for number in range(40, 90):
            term = ("fn", name_from(number), A, term)
        self.assertEqual(kind_of(context, term)[:2], ("fun", A))

    def test_of_several_pairs_with_one_name_the_last_one_counts(self):
        self.assertEqual(kind_of((("x", A), ("x", B)), X), B)
        self.assertEqual(kind_of((("x", B), ("x", A)), X), A)
        self.assertEqual(kind_of((("x", A), ("y", B), ("x", NUM), ("y", UNIT)), ("pair", X, Y)), ("pair", NUM, UNIT))
        self.assertEqual(kind_of((("x", NUM), ("y", B), ("x", A)), X), A)

    def test_what_is_no_tuple(self):
        for context in (None, [], [("x", A)], {}, {"x": A}, "", "x", 0, {("x", A)}, iter(()), Unhashable(), b""):
            self.refused(context, None)
        for thing in odd_things():
            if type(thing) is not tuple:
                self.refused(thing, None)
            elif thing:
                self.refused(thing, 0)
        for thing in deep_things():
            self.refused((("x", thing),), 0)
            self.refused((("x", A), thing), 1)

    def test_what_is_no_pair_of_a_name_and_a_kind(self):
        good = ("x", A)
        for wrong in (
            None, (), ("x",), ("x", A, A), ["x", A], ("fn", A), ("X", A), ("", A), ("1", A), ("abcdefghi", A), (None, A), (3, A), (b"x", A),
            (("x",), A), (X, A), ("x", None), ("x", "num"), ("x", ["num"]), ("x", ("var", "d")), ("x", X), ("x", ("num", NUM)),
            ("x", chain(lambda kind: ("list", kind), A, 101)), (A, "x"), (Unhashable(), A), ("x", Unhashable()), "xa", "x",
        ):
            self.refused((wrong,), 0)
            self.refused((good, wrong), 1)
            self.refused((good, good, wrong, wrong), 2)
            self.refused((wrong, good, wrong), 0)
            self.refused((good,) * 39 + (wrong,), 39)

    def test_kinds_up_to_a_hundred_deep(self):
        kind = chain(lambda part: ("list", part), A, 100)
        self.assertEqual(kind_of((("x", kind),), X), kind)

    def test_the_context_is_told_ahead_of_the_term(self):
        for term in (None, ("name", "fn"), ("plus", X, None), NO):
            self.refused(None, None, term)
            self.refused((("x", A), ("x", None)), 1, term)
            self.refused((None,) * 41, None, term)


class TestTerms(unittest.TestCase):
    def refused(self, context, term, place):
        for ask in (lambda: kind_of(context, term), lambda: kind_of(term=term, context=context)):
            with self.assertRaises(InvalidTerm) as caught:
                ask()
            self.assertIs(type(caught.exception), InvalidTerm)
            self.assertEqual(caught.exception.place, place)

    def test_what_is_no_term(self):
        for term, place in (
            (None, ()), ((), ()), ("x", ()), (["name", "x"], ()), (NUM, ()), (("name", "fn"), (1,)), (("number", True), (1,)),
            (("number", 10 ** 400), (1,)), (("fn", "x", ("var", "d"), X), (2,)), (("is", "=", ONE, ONE), (1,)),
            (("pair", ("pair", ONE, None), None), (1, 2)), (("plus", X, X, X), ()), (("nil", ["num"]), (1,)),
            (chain(lambda term: ("minus", term), ONE, 101), (1,) * 100), (Unhashable(), ()),
        ):
            self.refused((), term, place)
            self.refused(CONTEXT, term, place)
        for thing in odd_things():
            if type(thing) is not tuple:
                self.refused((), thing, ())

    def test_no_term_is_told_ahead_of_a_wrong_one(self):
        self.refused((), ("plus", NO, None), (2,))
        self.refused((), ("plus", NO, ("minus", ("name", 3))), (2, 1, 1))
        self.refused((), ("call", ONE, ("nil", "num")), (2, 1))
        self.refused((), ("case", ONE, "q", NO, "fn", NO), (4,))

    def test_terms_that_are_not_as_written_have_kinds(self):
        self.assertEqual(kind_of((), chain(lambda term: ("minus", term), ONE, 17)), NUM)
        self.assertEqual(kind_of((), chain(lambda term: ("plus", term, term), ONE, 9)), NUM)
        kind = chain(lambda part: ("list", part), A, 7)
        self.assertEqual(kind_of((), ("nil", kind)), ("list", kind))

    def test_nothing_passed_is_changed(self):
        context, term = [["x", ["num"]]], ("plus", ["name"], {})
        kept = copy.deepcopy((context, term))
        self.assertRaises(InvalidContext, kind_of, context, term)
        self.assertRaises(InvalidTerm, kind_of, (), term)
        self.assertEqual((context, term), kept)


class TestFilled(unittest.TestCase):
    def test_by_hand(self):
        row = (("a", NUM), ("b", ("list", UNIT)))
        for kind, filling, told in (
            (A, (("a", NUM),), NUM), (A, (), A), (A, (("b", NUM),), A), (NUM, (("a", UNIT),), NUM), (UNIT, (), UNIT),
            (("list", A), (("a", NUM),), ("list", NUM)), (("pair", A, B), (("a", NUM),), ("pair", NUM, B)),
            (("pair", A, B), row, ("pair", NUM, ("list", UNIT))), (("either", B, A), row, ("either", ("list", UNIT), NUM)),
            (("fun", A, ("fun", C, A)), row, ("fun", NUM, ("fun", C, NUM))), (C, (("c", TRUTH),), TRUTH),
            (("fun", ("fun", A, A), ("list", ("pair", A, A))), (("a", TRUTH),), ("fun", ("fun", TRUTH, TRUTH), ("list", ("pair", TRUTH, TRUTH)))),
            (("pair", A, ("pair", B, C)), (("a", NUM), ("b", NUM), ("c", UNIT)), ("pair", NUM, ("pair", NUM, UNIT))),
        ):
            self.assertEqual(filled(kind, filling), told)
            self.assertEqual(filled(filling=filling, kind=kind), told)

    def test_counted_kinds(self):
        for number in range(3000):
            kind = kind_from(number, (NUM, UNIT, A, B, C))
            for filling in FILLINGS:
                told = filled(kind, filling)
                self.assertEqual(told, turned_kind(kind, dict(filling)))
                self.assertEqual(filled(told, filling), told)
                self.assertEqual(set(variables_of(told)), set(variables_of(kind)) - {var for var, _ in filling})
                self.assertIs(is_data_kind(told), is_data_kind(kind))

    def test_filled_once_more(self):
        kind = ("fun", A, ("pair", B, C))
        self.assertEqual(filled(filled(kind, (("a", NUM),)), (("a", UNIT), ("b", UNIT))), ("fun", NUM, ("pair", UNIT, C)))
        for one, two in itertools.product(FILLINGS, repeat=2):
            both = tuple(sorted({**dict(two), **dict(one)}.items()))
            self.assertEqual(filled(filled(kind, one), two), filled(kind, both))

    def test_deep_kinds(self):
        for wrap in (lambda part: ("list", part), lambda part: ("fun", A, part), lambda part: ("pair", part, A)):
            self.assertEqual(
                filled(chain(wrap, A, 100), (("a", NUM),)), turned_kind(chain(wrap, A, 100), {"a": NUM}))
            self.assertRaises(InvalidKind, filled, chain(wrap, A, 101), ())
        deep = chain(lambda part: ("list", part), NUM, 100)
        self.assertEqual(filled(A, (("a", deep),)), deep)
        self.refused(A, (("a", ("list", deep)),), 0)

    def refused(self, kind, filling, index):
        for ask in (lambda: filled(kind, filling), lambda: filled(filling=filling, kind=kind)):
            with self.assertRaises(InvalidFilling) as caught:
                ask()
            self.assertIs(type(caught.exception), InvalidFilling)
            self.assertEqual(caught.exception.index, index)
            self.assertIs(type(caught.exception.index), type(index))

    def test_what_is_no_tuple(self):
        for filling in (None, [], [("a", NUM)], {}, {"a": NUM}, "", "a", 0, iter(()), Unhashable(), {("a", NUM)}, True):
            self.refused(A, filling, None)
        for thing in odd_things():
            if type(thing) is not tuple:
                self.refused(A, thing, None)
            elif thing:
                self.refused(A, thing, 0)
        for thing in deep_things():
            self.refused(A, (("a", thing),), 0)
            self.refused(A, (("a", NUM), thing), 1)

    def test_what_is_no_pair_of_a_variable_and_a_closed_data_kind(self):
        for wrong in (
            None, (), ("c",), ("c", NUM, NUM), ["c", NUM], ("d", NUM), ("x", NUM), ("", NUM), ("C", NUM), ("bc", NUM), (b"c", NUM), (None, NUM),
            (C, NUM), (2, NUM), ("c", A), ("c", C), ("c", ("list", B)), ("c", ("fun", NUM, NUM)), ("c", ("list", ("fun", UNIT, UNIT))),
            ("c", None), ("c", "num"), ("c", ["num"]), ("c", ("num", NUM)), ("c", X), (NUM, "c"), (Unhashable(), NUM), ("c", Unhashable()), "cn",
        ):
            self.refused(A, (wrong,), 0)
            self.refused(A, (("a", NUM), wrong), 1)
            self.refused(A, (("a", NUM), ("b", UNIT), wrong), 2)
            self.refused(A, (("a", NUM), wrong, ("b", None)), 1)

    def test_variables_that_are_not_above_the_one_before(self):
        for variables in itertools.product("abc", repeat=3):
            filling = tuple((var, NUM) for var in variables)
            wrong = next((at for at in (1, 2) if variables[at] <= variables[at - 1]), None)
            if wrong is None:
                self.assertEqual(filled(A, filling), NUM)
            else:
                self.refused(A, filling, wrong)
        for one, two in itertools.product("abc", repeat=2):
            if two <= one:
                self.refused(NUM, ((one, NUM), (two, UNIT)), 1)
        self.refused(A, (("a", NUM), ("b", NUM), ("c", NUM), ("c", NUM)), 3)
        self.refused(A, (("b", NUM), ("a", None)), 1)
        self.refused(A, (("b", None), ("a", NUM)), 0)

    def test_the_kind_is_told_ahead_of_the_filling(self):
        for kind in (None, "num", ["num"], ("var", "d"), (), ("list",), X, chain(lambda part: ("list", part), A, 101)):
            for filling in ((), None, [], (("d", NUM),), (("a", A),)):
                for ask in (lambda: filled(kind, filling), lambda: filled(filling=filling, kind=kind)):
                    with self.assertRaises(InvalidKind) as caught:
                        ask()
                    self.assertIs(type(caught.exception), InvalidKind)
                    self.assertIs(caught.exception.given, kind)
        for thing in deep_things():
            with self.assertRaises(InvalidKind) as caught:
                filled(thing, None)
            self.assertIs(caught.exception.given, thing)

    def test_nothing_passed_is_changed(self):
        filling = [["a", ["num"]]]
        self.assertRaises(InvalidFilling, filled, A, filling)
        self.assertRaises(InvalidFilling, filled, A, tuple(filling))
        self.assertEqual(filling, [["a", ["num"]]])


def paths_of(term):
    """The paths to all parts of the term."""
    paths = [()]
    for at, sort in enumerate(FORMS[term[0]], start=1):
        if sort == "T":
            paths += [(at,) + path for path in paths_of(term[at])]
    return paths


def with_at(term, path, thing):
    """The term with another thing at the path."""
    if not path:
        return thing
    return term[:path[0]] + (with_at(term[path[0]], path[1:], thing),) + term[path[0] + 1:]


if __name__ == "__main__":
    unittest.main()

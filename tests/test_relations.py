"""Points 4, 5, 6 and C1 to C8: relations, what is related by them, ways apart, values turned, and what is kept."""

import copy
import itertools
import unittest

from bykindalone.errors import InvalidArguments, InvalidKind, InvalidRelation, InvalidTerm, InvalidThing, InvalidValue
from bykindalone.errors import NotData, NotRelated, TooMany, Unfilled, WrongTerm
from bykindalone.kinds import TRUTH, is_kind
from bykindalone.meaning import told
from bykindalone.promises import promise_of
from bykindalone.relations import are_related, behind, both_told, fillings, flipped, is_relation, is_tried, is_turn
from bykindalone.relations import related_pairs, turned, way_apart
from bykindalone.terms import is_written
from bykindalone.text import read_kind, read_term
from kinded import program_of
from made import kind_from, value_from
from meant import given, meant, replaced, row_of, spots, variables_in, with_kind
from related import all_ways, asked_pairs, closed_thing, how_many, is_related, ones_of, pairs_of, relation_from, rows_in, twos_of, values_of
from things import A, B, C, NUM, UNIT, chain, odd_things

T, K = read_term, read_kind
YES, NO = ("left", ()), ("right", ())
# 3 stands beside both, in the order of values left is ahead of right.
SIGNS = (("a", NUM, TRUTH, ((-2, NO), (0, YES), (3, YES), (3, NO))),)
TENS = (("a", NUM, NUM, ((1, 10), (2, 20), (3, 30))),)
NONE = (("a", NUM, NUM, ()),)
TWO = (("a", NUM, NUM, ((1, 10), (2, 20))), ("b", UNIT, NUM, (((), 5), ((), 6))))
THREE = (("a", NUM, UNIT, ((1, ()),)), ("b", NUM, NUM, ((1, 2),)), ("c", TRUTH, TRUTH, ((YES, NO), (NO, YES))))
TWICE = T("fn l: list a. fold(fn x: a. fn r: list a. cons(x, cons(x, r)), nil(a), l)")


def many(number, wide=1):
    """A relation of a with as many pairs."""
    return (("a", NUM, NUM, tuple((at // wide, at % wide) for at in range(number))),)


class TestRelations(unittest.TestCase):
    GOOD = (
        (), SIGNS, TENS, NONE, TWO, THREE, THREE[1:], THREE[:1] + THREE[2:], (("a", NUM, NUM, ((1, 2), (1, 3), (2, 1))),),
        (("c", UNIT, UNIT, (((), ()),)),),
        (("b", ("list", NUM), ("pair", NUM, NUM),
            (((), ("pair", 0, 0)), ((1,), ("pair", 0, 0)), ((1,), ("pair", 0, 1)), ((1, 0), ("pair", -9, 1)))),),
        (("a", TRUTH, UNIT, ((YES, ()), (NO, ()))),), (("a", chain(lambda part: ("list", part), NUM, 100), UNIT, (((), ()),)),),
    )
    # Each beside the index of the first wrong element, None where the whole is wrong.
    WRONG = (
        (None, None), ([], None), (list(SIGNS), None), ("a", None), ({"a": 1}, None), (0, None), ((None,), 0), (((),), 0),
        (("a",), 0), (SIGNS + SIGNS, 1), (THREE + THREE[2:], 3),
        ((THREE[1], THREE[0]), 1), ((THREE[0], THREE[2], THREE[1]), 2), (THREE + (None,), 3), ((list(SIGNS[0]),), 0),
        ((("a", NUM, NUM),), 0), ((("a", NUM, NUM, (), ()),), 0),
        ((("d", NUM, NUM, ()),), 0), ((("", NUM, NUM, ()),), 0), ((("ab", NUM, NUM, ()),), 0), ((("a", A, NUM, ()),), 0),
        ((("a", NUM, ("list", B), ()),), 0),
        ((("a", ("fun", NUM, NUM), NUM, ()),), 0), ((("a", NUM, ("fun", UNIT, NUM), ()),), 0),
        ((("a", ("num", NUM), NUM, ()),), 0), ((("a", NUM, NUM, []),), 0),
        ((("a", NUM, NUM, None),), 0), ((("a", NUM, NUM, ((1, 2), (1, 2))),), 0), ((("a", NUM, NUM, ((1, 3), (1, 2))),), 0),
        ((("a", NUM, NUM, ((2, 1), (1, 2))),), 0),
        ((("a", NUM, NUM, ((True, 1),)),), 0), ((("a", NUM, NUM, ((1, False),)),), 0),
        ((("a", NUM, NUM, ((0, 1), (True, 2))),), 0), ((("a", NUM, NUM, ((1, ()),)),), 0),
        ((("a", NUM, UNIT, (((), 1),)),), 0), ((("a", NUM, NUM, ([1, 2],)),), 0), ((("a", NUM, NUM, ((1,),)),), 0),
        ((("a", NUM, NUM, ((1, 2, 3),)),), 0), ((("a", NUM, NUM, (1,)),), 0),
        ((("a", TRUTH, UNIT, ((NO, ()), (YES, ()))),), 0), ((SIGNS[0], ("b", NUM, NUM, ((1, 2), (0, 5)))), 1),
        ((THREE[0], THREE[1], ("c", TRUTH, NUM, ((YES, NO),))), 2),
        ((("a", ("list", NUM), NUM, (((1,), 0), ((), 0))),), 0),
        ((("a", ("pair", NUM, NUM), UNIT, ((("pair", 1, 2), ()), (("pair", 1, 1), ()))),), 0),
        ((("a", chain(lambda part: ("list", part), NUM, 101), UNIT, ()),), 0),
        ((("a", NUM, chain(lambda part: ("list", part), NUM, 101), ()),), 0),
    )

    def test_good_and_wrong_ones(self):
        for relation in self.GOOD:
            self.assertIs(is_relation(relation), True)
            self.assertIs(is_relation(value=relation), True)
            ones = tuple((var, one) for var, one, _, _ in relation)
            self.assertEqual(fillings(relation), (ones, tuple((var, two) for var, _, two, _ in relation)))
            self.assertEqual(fillings(relation=relation), fillings(relation))
        for relation, index in self.WRONG:
            self.assertIs(is_relation(relation), False)
            self.assertIs(is_turn(relation), False)
            for ask in (fillings, flipped, lambda relation: behind(relation, None), lambda relation: related_pairs(A, relation),
                lambda relation: are_related(A, relation, None, None),
                        lambda relation: way_apart(A, relation, None, None), lambda relation: turned(A, relation, None),
                        lambda relation: both_told(TWICE, relation, None, None),
                        lambda relation: behind(TENS, relation), lambda relation: behind((), relation)):
                with self.assertRaises(InvalidRelation) as caught:
                    ask(relation)
                self.assertEqual(caught.exception.index, index)

    def test_things_of_any_kind(self):
        for thing in odd_things():
            if thing != ():
                self.assertIs(is_relation(thing), False)
                self.assertIs(is_turn(thing), False)
            wrong = [(thing,), TENS + (thing,), (("a", NUM, NUM, (thing,)),), (("a", ("fun", NUM, NUM), thing, ()),),
                (("a", thing, ("list", A), ()),)]
            if thing != "a":
                wrong.append(((thing, NUM, NUM, ()),))
            if not isinstance(thing, int) or isinstance(thing, bool):
                wrong += [(("a", NUM, NUM, ((thing, 1),)),), (("a", NUM, NUM, ((1, thing),)),)]
            if not isinstance(thing, tuple):
                wrong += [(("a", NUM, NUM, thing),), thing]
            for relation in wrong:
                self.assertIs(is_relation(relation), False, relation)
                self.assertIs(is_turn(relation), False)

    def test_turns(self):
        for relation in (TENS, NONE, (), THREE, (("a", NUM, NUM, ((1, 2), (3, 2))),), THREE[2:]):
            self.assertIs(is_turn(relation), True)
            self.assertIs(is_turn(value=relation), True)
        for relation in (SIGNS, TWO, (("a", NUM, NUM, ((0, 9), (1, 2), (1, 3))),), THREE[:1] + TWO[1:],
            (("a", UNIT, NUM, (((), 1), ((), 2))),)):
            self.assertIs(is_turn(relation), False)

    def test_flipped_ones(self):
        self.assertEqual(flipped(SIGNS), (("a", TRUTH, NUM, ((YES, 0), (YES, 3), (NO, -2), (NO, 3))),))
        self.assertEqual(flipped(()), ())
        self.assertEqual(flipped(relation=THREE),
            (("a", UNIT, NUM, (((), 1),)), ("b", NUM, NUM, ((2, 1),)), ("c", TRUTH, TRUTH, ((YES, NO), (NO, YES)))))
        for number in range(300):
            relation = relation_from(number)
            self.assertTrue(is_relation(relation))
            other = flipped(relation)
            self.assertTrue(is_relation(other))
            self.assertEqual(flipped(other), relation)
            for (var, one, two, pairs), again in zip(relation, other):
                self.assertEqual(again, (var, two, one, tuple(sorted((y, x) for x, y in pairs))))

    def test_a_relation_and_then_another_one(self):
        self.assertEqual(behind(SIGNS, flipped(SIGNS)),
            (("a", NUM, NUM, ((-2, -2), (-2, 3), (0, 0), (0, 3), (3, -2), (3, 0), (3, 3))),))
        self.assertEqual(behind(TENS, (("a", NUM, UNIT, ((10, ()), (30, ()), (31, ()))),)),
            (("a", NUM, UNIT, ((1, ()), (3, ()))),))
        self.assertEqual(behind(other=NONE, relation=TENS), NONE)
        self.assertEqual(behind((), ()), ())
        for number in range(300):
            relation = relation_from(number)
            other = tuple(
                (var, two, TRUTH, tuple((y, side) for y in sorted({repr(y): y for _, y in pairs}.values()) for side in (YES,
                    NO)[number % 2:]))
                for var, _, two, pairs in relation)
            self.assertTrue(is_relation(other))
            told_of = behind(relation, other)
            self.assertTrue(is_relation(told_of))
            for first, last, both in zip(relation, other, told_of):
                through = [(x, z) for x, y in first[3] for w, z in last[3] if y == w]
                self.assertEqual(both, (first[0], first[1], TRUTH,
                    tuple(sorted({repr(pair): pair for pair in through}.values()))))

    def test_relations_that_do_not_go_on_from_one_another(self):
        rows = (
            (TENS, (), None), (TENS, TWO, None), ((), TENS, None), (TENS, (("b", NUM, NUM, ()),), 0),
            (TENS, (("a", UNIT, NUM, ()),), 0), (TWO, (TENS[0], ("b", UNIT, NUM, ())), 1),
            (TWO, (TENS[0], ("c", NUM, NUM, ())), 1), (TWO, (("a", UNIT, NUM, ()), ("c", NUM, NUM, ())), 0),
            (THREE, (THREE[1], THREE[2]), None), (SIGNS, SIGNS, 0),
            (TWO, (("b", NUM, NUM, ()), ("c", NUM, NUM, ())), 0),
        )
        for relation, other, index in rows:
            with self.assertRaises(InvalidRelation) as caught:
                behind(relation, other)
            self.assertEqual(caught.exception.index, index)


class TestKinds(unittest.TestCase):
    def test_tried_kinds(self):
        tried = (
            "a", "num", "list (a -> b)", "a -> num", "a -> list a", "(a, b) -> num", "a | unit -> b -> c", "unit -> num",
            "((a, b) | unit, c) -> list num", "a -> (b -> num, c -> num)",
            "list num | (a -> num)",
        )
        others = ("num -> a", "list a -> a", "(a -> a) -> a", "(a, num) -> a", "a | list b -> a", "a -> num -> a",
            "list (num -> a)", "(a, num -> num)", "a -> list (list a -> b)",
                  "a | (num | unit -> a)", "((a -> b) -> a, num)")
        for texts, holds in ((tried, True), (others, False)):
            for text in texts:
                self.assertIs(is_tried(K(text)), holds, text)
                self.assertIs(is_tried(kind=K(text)), holds)

    def test_counted_kinds(self):
        def is_tried_again(kind):
            if kind[0] == "fun" and any(word in str(kind[1]) for word in ("fun", "list", "num")):
                return False
            return kind[0] == "var" or all(is_tried_again(part) for part in kind[1:])

        counts = [0, 0]
        for number in range(6000):
            kind = kind_from(number, (A, UNIT, B, NUM), ("fun", "pair", "either", "fun", "list"))
            self.assertIs(is_tried(kind), is_tried_again(kind), kind)
            counts[is_tried(kind)] += 1
        self.assertGreater(min(counts), 800)

    def test_no_kinds(self):
        asks = (
            is_tried, lambda kind: related_pairs(kind, None), lambda kind: are_related(kind, None, None, None),
            lambda kind: way_apart(kind, None, None, None),
            lambda kind: turned(kind, None, None),
        )
        odd = [thing for thing in odd_things() if not is_kind(thing)]
        for ask, thing in itertools.product(asks, odd):
            with self.assertRaises(InvalidKind) as caught:
                ask(kind=thing)
            self.assertIs(caught.exception.given, thing)

    def test_kinds_that_are_not_due(self):
        rows = (
            (lambda kind: related_pairs(kind, None), ("num", "list a", "a -> a", "(a, num)", "a | list a", "(unit, a -> unit)")),
            (lambda kind: are_related(kind, None, None, None),
                ("num -> a", "list a -> a", "(a, (a -> a) -> a)", "a -> (num -> a)")),
            (lambda kind: way_apart(kind, None, None, None),
                ("num -> a", "list a -> a", "(a, (a -> a) -> a)", "a -> (num -> a)")),
            (lambda kind: turned(kind, None, None), ("a -> a", "list (a -> a)", "(num, a -> a)", "a | (unit -> unit)")),
        )
        for ask, texts in rows:
            for text in texts:
                with self.assertRaises(InvalidKind) as caught:
                    ask(K(text))
                self.assertEqual(caught.exception.given, K(text))


class TestRelatedPairs(unittest.TestCase):
    def test_each_row(self):
        rows = (
            ("a", SIGNS, SIGNS[0][3]), ("unit", (), (((), ()),)), ("unit", SIGNS, (((), ()),)), ("a", NONE, ()),
            ("(a, unit)", NONE, ()), ("a | unit", NONE, ((NO, NO),)),
            ("unit | a", TENS, ((YES, YES), (("right", 1), ("right", 10)), (("right", 2), ("right", 20)),
                (("right", 3), ("right", 30)))),
            ("(b, a)", TWO, ((("pair", (), 1), ("pair", 5, 10)), (("pair", (), 1), ("pair", 6, 10)),
                (("pair", (), 2), ("pair", 5, 20)), (("pair", (), 2), ("pair", 6, 20)))),
            ("b | b", TWO, ((YES, ("left", 5)), (YES, ("left", 6)), (NO, ("right", 5)), (NO, ("right", 6)))),
        )
        for text, relation, pairs in rows:
            self.assertEqual(related_pairs(K(text), relation), pairs)
            self.assertEqual(related_pairs(relation=relation, kind=K(text)), pairs)

    def test_counted_ones(self):
        asked = 0
        for number in range(1500):
            kind = kind_from(number, (A, UNIT, B, C), ("pair", "either"))
            relation = relation_from(number)
            pairs = pairs_of(relation)
            if how_many(kind, pairs) > 60:
                continue
            found = related_pairs(kind, relation)
            self.assertEqual(list(found), asked_pairs(kind, pairs))
            self.assertEqual(len(found), how_many(kind, pairs))
            asked += 1
        self.assertGreater(asked, 1000)

    def test_400_and_more(self):
        self.assertEqual(len(related_pairs(("pair", A, A), many(20))), 400)
        self.assertEqual(related_pairs(A, many(400)), many(400)[0][3])
        wide = ("either", ("pair", A, A), A)
        for kind, relation, given_here in ((("pair", A, A), many(21), 441), (A, many(401), 401), (wide, many(20), 420),
            (chain(lambda part: ("pair", part, part), A, 8), many(20), 20 ** 128)):
            with self.assertRaises(TooMany) as caught:
                related_pairs(kind, relation)
            self.assertEqual(caught.exception.given, given_here)
        # There may be none, though a part has pairs without number.
        deep = chain(lambda part: ("pair", part, part), A, 8)
        self.assertEqual(related_pairs(("pair", deep, B), many(20) + (("b", NUM, NUM, ()),)), ())
        self.assertEqual(related_pairs(("either", ("pair", B, deep), UNIT), many(20) + (("b", NUM, NUM, ()),)), ((NO, NO),))

    def test_variables_that_are_not_told(self):
        for kind, relation, var in ((A, (), "a"), (B, TENS, "b"), (("pair", C, B), TENS, "b"), (("pair", C, A), TWO[1:], "a"),
            (("either", UNIT, C), TWO, "c")):
            with self.assertRaises(Unfilled) as caught:
                related_pairs(kind, relation)
            self.assertEqual(caught.exception.var, var)


class TestRelated(unittest.TestCase):
    STILL, STEADY, SAME = T("fn x: num. 1"), T("fn x: unit | unit. 1"), T("fn x: num. x")
    # A kind, a relation, two things, and the first way apart.
    ROWS = (
        ("a", SIGNS, 0, YES, None), ("a", SIGNS, 0, NO, ()), ("a", SIGNS, 3, NO, None), ("a", SIGNS, 4, NO, ()),
        ("num", SIGNS, 4, 4, None), ("num", (), 4, 5, ()), ("unit", (), (), (), None),
        ("(num, a)", SIGNS, ("pair", 1, 0), ("pair", 1, NO), ("second",)),
        ("(num, a)", SIGNS, ("pair", 2, 0), ("pair", 1, NO), ("first",)),
        ("(a, a)", SIGNS, ("pair", 0, 3), ("pair", YES, NO), None),
        ("(a, (a, a))", SIGNS, ("pair", 0, ("pair", 0, 0)), ("pair", YES, ("pair", YES, NO)), ("second", "second")),
        ("a | num", SIGNS, ("left", 0), ("left", YES), None), ("a | num", SIGNS, ("left", 0), ("left", NO), ("side",)),
        ("a | num", SIGNS, ("right", 0), ("left", YES), ()),
        ("a | num", SIGNS, ("left", 0), ("right", 0), ()), ("num | a", SIGNS, ("right", 0), ("right", NO), ("side",)),
        ("a | num", SIGNS, ("right", 4), ("right", 4), None),
        ("a | num", SIGNS, ("right", 4), ("right", 5), ("side",)), ("list a", SIGNS, (), (), None),
        ("list a", SIGNS, (0,), (), ()), ("list a", SIGNS, (), (NO,), ()),
        ("list a", SIGNS, (0, 3, -2), (YES, NO, NO), None), ("list a", SIGNS, (0, 0, 0), (YES, NO, NO), (1,)),
        ("list a", SIGNS, (0, 0), (NO, NO, NO), ()),
        ("list (list a)", SIGNS, ((), (0, 0)), ((), (YES, NO)), (1, 1)), ("list (list a)", SIGNS, ((), (0,)), ((), ()), (1,)),
        ("list (num | a)", SIGNS, (("left", 1), ("right", 0)), (("left", 1), ("right", NO)), (1, "side")),
        ("a -> num", SIGNS, STILL, STEADY, None), ("a -> num", SIGNS, SAME, STEADY, (("with", -2, NO),)),
        ("a -> num", NONE, SAME, STILL, None), ("unit -> num", (), T("fn x: unit. 1"), T("fn x: unit. 2"), (("with", (), ()),)),
        ("a -> a", SIGNS, SAME, T("fn x: unit | unit. x"), None),
        ("a -> a", SIGNS, SAME, T("fn x: unit | unit. left((), unit)"), (("with", -2, NO),)),
        ("a -> a", SIGNS, SAME, T("fn x: unit | unit. right(unit, ())"), (("with", 0, YES),)),
        ("a -> a -> num", SIGNS, T("fn x: num. fn y: num. x"), T("fn x: unit | unit. fn y: unit | unit. case x {u. 0; v. -2}"),
            (("with", 3, YES), ("with", -2, NO))),
        ("(a -> num, num)", SIGNS, T("(fn x: num. x, 3)"), T("(fn x: unit | unit. 3, 4)"), ("first", ("with", -2, NO))),
        ("list (a -> num)", TENS, T("cons(fn x: num. x, cons(fn x: num. x, nil(num -> num)))"),
         T("cons(fn x: num. case x == 10 {u. 1; v. case x == 20 {u. 2; v. 3}}, cons(fn x: num. x, nil(num -> num)))"),
         (1, ("with", 1, 10))),
        ("(a | b) -> num", TWO, T("fn e: num | unit. case e {x. 1; y. 2}"), T("fn e: num | num. case e {x. 1; y. y + -3}"),
            (("with", NO, ("right", 6)),)),
        ("unit | (a -> a)", TENS, T("right(unit, fn x: num. x)"), T("right(unit, fn x: num. x)"), None),
        ("unit | (a -> a)", TENS, T("right(unit, fn x: num. x)"), T("right(unit, fn x: num. x + 1)"), ("side", ("with", 1, 10))),
        ("unit | (a -> a)", TENS, T("left((), num -> num)"), T("right(unit, fn x: num. x + 1)"), ()),
    )

    def test_each_row(self):
        for text, relation, one, two, way in self.ROWS:
            with self.subTest(text, one=one, two=two):
                self.assertEqual(way_apart(K(text), relation, one, two), way)
                self.assertEqual(way_apart(two=two, one=one, relation=relation, kind=K(text)), way)
                self.assertIs(are_related(K(text), relation, one, two), way is None)
                self.assertIs(are_related(two=two, one=one, relation=relation, kind=K(text)), way is None)
                self.assertIs(are_related(K(text), flipped(relation), two, one), way is None)

    KINDS = (
        "a", "(a, num)", "list a", "list (a | num)", "(list a, b | unit)", "a -> num", "a -> b -> list a", "(a | b) -> (num, b)",
        "list (a -> a)", "(b -> a, list c)", "unit -> list c", "c -> a | (b -> num)",
        "(a, c) -> b", "list (list b)", "a -> list (b -> unit | unit)", "num | (c -> c -> c)",
    )

    def test_counted_things(self):
        counts = [0, 0]
        for text, number in itertools.product(self.KINDS, range(1, 60)):
            kind, relation = K(text), relation_from(number * 7)
            pairs, seed = pairs_of(relation), number * number * 7919 + (number ** 9 << 12)
            one, two = closed_thing(kind, ones_of(relation), seed), closed_thing(kind, twos_of(relation),
                seed if number % 3 else seed // 5)
            if "fun" in str(kind):
                if not is_written(one) or not is_written(two):
                    continue
                left, right = meant(one), meant(two)
            else:
                left, right = one, two
            ways = all_ways(kind, pairs, left, right)
            self.assertEqual(way_apart(kind, relation, one, two), ways[0] if ways else None, (text, one, two))
            holds = are_related(kind, relation, one, two)
            self.assertIs(holds, not ways)
            self.assertIs(holds, is_related(kind, pairs, left, right))
            self.assertIs(are_related(kind, flipped(relation), two, one), holds)
            counts[holds] += 1
        self.assertGreater(min(counts), 150)

    def test_the_promise_of_a_kind_says_what_is_related(self):
        counts = [0, 0]
        for text, number in itertools.product(self.KINDS + ("num -> num", "(unit | unit, unit -> num)",
            "list num -> (a, list num)"), range(1, 60)):
            kind, relation = K(text), relation_from(number * 5)
            if not is_tried(kind):
                continue
            pairs, seed = pairs_of(relation), number * number * 7919 + (number ** 9 << 12)
            one, two = closed_thing(kind, ones_of(relation), seed), closed_thing(kind, twos_of(relation),
                seed if number % 3 else seed // 5)
            if "fun" in str(kind) and not (is_written(one) and is_written(two)):
                continue
            means = [meant(thing) if "fun" in str(kind) else thing for thing in (one, two)]
            holds = is_kept(promise_of(kind), pairs, {"one": means[0], "two": means[1]})
            self.assertIs(holds, are_related(kind, relation, one, two), (text, one, two))
            counts[holds] += 1
        self.assertGreater(min(counts), 150)

    def test_what_is_told_of_related_things_is_related(self):
        # The two values of a counted list, laid beside one another by the pairs.
        asked = 0
        for text, number in itertools.product(("list a", "(list a, b | unit)", "list (a | (num, c))"), range(1, 80)):
            kind, relation = K(text), relation_from(number * 3, most=6)
            if any(not pairs for _, _, _, pairs in relation):
                continue
            shape = value_from(with_kind(kind, {"a": UNIT, "b": UNIT, "c": UNIT}), number * 31)
            drawn = {var: pairs[number % len(pairs)] for var, _, _, pairs in relation}
            one, two = (replaced(kind, shape, lambda var, _: drawn[var][side]) for side in (0, 1))
            self.assertTrue(are_related(kind, relation, one, two))
            asked += 1
        self.assertGreater(asked, 60)

    def test_a_middle_value(self):
        # At a data kind: related by a relation and then another one exactly if some middle value is related to both.
        counts = [0, 0]
        kind = K("(a, list a | a)")
        first = (("a", NUM, NUM, ((0, 1), (0, 2), (1, 2), (2, 0))),)
        second = (("a", NUM, TRUTH, ((0, YES), (1, NO), (2, YES), (2, NO))),)
        things, ends = range(3), (YES, NO)

        def all_values(things):
            rests = [("right", x) for x in things] + [("left", row) for many_here in range(3) for row in itertools.product(things,
                repeat=many_here)]
            return [("pair", x, rest) for x in things for rest in rests]

        middles = all_values(things)
        beside = [(x, [y for y in middles if are_related(kind, first, x, y)]) for x in middles]
        ahead = [(z, [y for y in middles if are_related(kind, second, y, z)]) for z in all_values(ends)]
        for (x, after), (z, before) in itertools.product(beside, ahead):
            holds = are_related(kind, behind(first, second), x, z)
            self.assertIs(holds, any(y in before for y in after))
            counts[holds] += 1
        self.assertGreater(min(counts), 50)

    def test_with_more_pairs_all_stays_related(self):
        kind = K("list (a | (num, b))")
        for number in range(200):
            relation = relation_from(number)[:2]
            fewer = tuple((var, one, two, pairs[::2]) for var, one, two, pairs in relation)
            one, two = value_from(with_kind(kind, ones_of(relation)), number), value_from(with_kind(kind, twos_of(relation)),
                number)
            if are_related(kind, fewer, one, two):
                self.assertTrue(are_related(kind, relation, one, two))

    def test_rows(self):
        one, two = T("fn x: num. 1"), T("fn x: num. 1")
        self.assertTrue(are_related(K("a -> num"), many(400), one, two))
        same = T("fn x: num. x")
        self.assertFalse(are_related(K("a -> a"), many(400, 400), same, T("fn x: num. x + 1")))
        self.assertIsNone(way_apart(K("a -> a"), (("a", NUM, NUM, tuple((at, at) for at in range(400))),), same, same))
        self.assertTrue(are_related(K("a -> (unit, num | list a)"), (("a", NUM, NUM, tuple((at, at) for at in range(400))),),
            *[T("fn x: num. ((), right(num, cons(x, nil(num))))")] * 2))
        pairs = T("fn x: (num, num). 1")
        self.assertTrue(are_related(K("(a, a) -> num"), many(20), pairs, pairs))
        twice = T("fn x: num. fn y: num. 1")
        self.assertTrue(are_related(K("a -> a -> num"), many(20), twice, twice))
        rows = (
            ("a -> num", many(401), one, two, 401), ("(a, a) -> num", many(21), pairs, pairs, 441),
            ("a -> a -> num", many(21), twice, twice, 441),
            ("(num, a -> num)", many(401), T("(1, fn x: num. 1)"), T("(2, fn x: num. 1)"), 401),
            ("list (a -> num)", many(500), T("nil(num -> num)"), T("nil(num -> num)"), 500),
            ("num | (a -> num)", many(401), T("left(1, num -> num)"), T("left(1, num -> num)"), 401),
            ("(a -> num, a -> a -> num)", many(21), T("(fn x: num. 1, fn x: num. fn y: num. 1)"),
             T("(fn x: num. 1, fn x: num. fn y: num. 1)"), 441),
             ("a -> (num, a -> num)", many(30), T("fn x: num. (1, fn y: num. 2)"), T("fn x: num. (1, fn y: num. 2)"), 900),
            ("(a | unit) -> num", many(400), T("fn e: num | unit. 1"), T("fn e: num | unit. 1"), 401),
        )
        for text, relation, first, second, given_here in rows:
            self.assertEqual(rows_in(K(text), pairs_of(relation)), given_here)
            for ask in (are_related, way_apart):
                with self.assertRaises(TooMany) as caught:
                    ask(K(text), relation, first, second)
                self.assertEqual(caught.exception.given, given_here)

    def test_rows_where_there_are_none(self):
        # Pairs of the first arguments without number, none of the second ones: no rows, and nothing is apart.
        relation = many(30) + (("b", NUM, NUM, ()),)
        one, two = T("fn p: (num, num). fn y: num. first(p)"), T("fn p: (num, num). fn y: num. second(p)")
        self.assertIsNone(way_apart(K("(a, a) -> b -> num"), relation, one, two))
        wide = "(((num, num), (num, num)), ((num, num), (num, num)))"
        first, second = T(f"fn p: {wide}. fn y: num. 1"), T(f"fn p: {wide}. fn y: num. 2")
        self.assertIsNone(way_apart(K(f"{wide.replace('num', 'a')} -> b -> num"), relation, first, second))
        self.assertIsNone(way_apart(K("b -> a -> a -> num"), relation, T("fn x: num. fn y: num. fn z: num. 1"),
            T("fn x: num. fn y: num. fn z: num. 2")))
        with self.assertRaises(TooMany) as caught:
            way_apart(K("a -> (b -> num, a -> num)"), relation, T("fn x: num. (fn y: num. 1, fn z: num. 1)"),
                T("fn x: num. (fn y: num. 2, fn z: num. 1)"))
        self.assertEqual(caught.exception.given, 900)
        both = T("(fn p: (num, num). fn y: num. first(p), 3)"), T("(fn p: (num, num). fn y: num. second(p), 4)")
        self.assertEqual(way_apart(K("((a, a) -> b -> num, num)"), relation, *both), ("second",))

    def test_things_that_are_none(self):
        one = T("fn x: num. 1")
        rows = (
            ("a", SIGNS, YES, YES, 0), ("a", SIGNS, 0, 0, 1), ("a", SIGNS, True, None, 0), ("list a", SIGNS, [0], None, 0),
            ("list a", SIGNS, (0,), (0,), 1), ("num", (), (), 0, 0), ("num", (), 0, True, 1),
            ("a -> num", SIGNS, one, one, 1), ("a -> num", SIGNS, T("fn x: unit | unit. 1"), None, 0),
            ("a -> num", TENS, one, T("fn x: num. ()"), 1), ("a -> num", TENS, 3, one, 0),
            ("a -> num", TENS, one, T("fn x: a. 1"), 1),
            ("a -> num", TENS, T("fn x: num. y"), one, 0),
            ("a -> num", TENS, one, ("fn", "x", NUM, chain(lambda part: ("minus", part), ("name", "x"), 16)), 1),
            ("a -> num", TENS, (lambda x: x), one, 0),
            ("(a -> num, num)", TENS, ("pair", one, 3), None, 0),
        )
        for text, relation, first, second, at in rows:
            for ask in (are_related, way_apart):
                with self.assertRaises(InvalidThing) as caught:
                    ask(K(text), relation, first, second)
                self.assertIs(caught.exception.given, (first, second)[at])
        for thing in odd_things():
            for text, good in (("a", ((0, 5),)), ("a -> num", T("fn x: num | unit. 1"))):
                relation = (("a", ("either", NUM, UNIT), ("either", NUM, UNIT), ()),)
                if text == "a":
                    good = ("left", 5)
                with self.assertRaises(InvalidThing) as caught:
                    way_apart(K(text), relation, thing, thing)
                self.assertIs(caught.exception.given, thing)
                with self.assertRaises(InvalidThing) as caught:
                    are_related(K(text), relation, good, thing)
                self.assertIs(caught.exception.given, thing)

    def test_deep_kinds(self):
        kind = chain(lambda part: ("list", part), A, 100)
        one, two, other = (chain(lambda part: (part,), last, 100) for last in (1, 10, 20))
        self.assertIsNone(way_apart(kind, TENS, one, two))
        self.assertEqual(way_apart(kind, TENS, one, other), (0,) * 99)
        pairs = chain(lambda part: ("pair", UNIT, part), A, 100)
        self.assertEqual(len(related_pairs(pairs, TENS)), 3)

    def test_the_first_wrong_argument_is_told(self):
        for ask in (are_related, way_apart):
            for told_here, error, kept in (
                ((("num",) * 2, None, None, None), InvalidKind, ("num", "num")),
                ((K("num -> a"), None, None, None), InvalidKind, K("num -> a")), ((A, None, None, None), InvalidRelation, None),
                ((A, (), None, None), Unfilled, "a"), ((K("b -> a"), TENS, None, None), Unfilled, "b"),
                ((K("(c, (b, a))"), (), None, None), Unfilled, "a"), ((A, TENS, None, 5.5), InvalidThing, None),
                ((K("a -> num"), many(500), T("fn x: num. 1"), None), InvalidThing, None),
                ((K("a -> num"), many(500), T("fn x: num. 1"), T("fn x: num. 1")), TooMany, 500),
            ):
                with self.assertRaises(error) as caught:
                    ask(*told_here)
                self.assertEqual(list(vars(caught.exception).values()), [kept])


def is_kept(promise, pairs, things):
    """Whether what the promise says is so of the things, PAIRS being these."""
    match promise:
        case ("same", e, f):
            return thing_of(e, things) == thing_of(f, things)
        case ("by", var, e, f):
            return (thing_of(e, things), thing_of(f, things)) in pairs[var]
        case ("both", l, m):
            return is_kept(l, pairs, things) and is_kept(m, pairs, things)
        case ("sides", n, e, f, l, m):
            (side, x), (other, y) = thing_of(e, things), thing_of(f, things)
            return side == other and is_kept(l if side == "left" else m, pairs, {**things, ("x", n): x, ("y", n): y})
        case ("each", n, e, f, l):
            row, other = thing_of(e, things), thing_of(f, things)
            return len(row) == len(other) and all(is_kept(l, pairs, {**things, ("x", n): x, ("y", n): y}) for x,
                y in zip(row, other))
        case ("all", n, asked, l, m):
            # Of a small kind just these values may be related to others.
            firsts, lasts = ({var: [pair[side] for pair in row] for var, row in pairs.items()} for side in (0, 1))
            both = itertools.product(values_of(asked, firsts), values_of(asked, lasts))
            found = [{**things, ("x", n): x, ("y", n): y} for x, y in both]
            return all(is_kept(m, pairs, more) for more in found if is_kept(l, pairs, more))
    raise AssertionError(promise)


def thing_of(named, things):
    match named:
        case ("one",) | ("two",):
            return things[named[0]]
        case ("x", _) | ("y", _):
            return things[named]
        case ("told", e, f):
            return thing_of(e, things)(thing_of(f, things))
        case ("first", e):
            return thing_of(e, things)[1]
        case ("second", e):
            return thing_of(e, things)[2]
    raise AssertionError(named)


class TestTurned(unittest.TestCase):
    def test_each_row(self):
        rows = (
            ("a", TENS, 2, 20), ("list a", TENS, (3, 1, 1), (30, 10, 10)), ("list a", TENS, (), ()), ("num", (), 7, 7),
            ("(a, num)", TENS, ("pair", 1, 1), ("pair", 10, 1)), ("a | num", TENS, ("right", 9), ("right", 9)),
            ("a | num", TENS, ("left", 2), ("left", 20)),
            ("list (a, (c, b))", THREE, (("pair", 1, ("pair", YES, 1)),), (("pair", (), ("pair", NO, 2)),)),
            ("list (num | a)", NONE, (("left", 4),), (("left", 4),)),
            ("unit", THREE, (), ()),
        )
        for text, turn, value, answer in rows:
            self.assertEqual(turned(K(text), turn, value), answer)
            self.assertEqual(turned(value=value, turn=turn, kind=K(text)), answer)
            self.assertTrue(are_related(K(text), turn, value, answer))

    def test_counted_values_and_the_equation(self):
        ran = 0
        for text in ("list a", "(a, num) -> list b -> (a, list b)", "list a -> a | b -> list (a | b)"):
            kind = ("fun", A, ("fun", B, ("fun", C, K(text))))
            asked, left = row_of(kind)
            for number in range(1, 120):
                turn = tuple((var, one, two, tuple({repr(x): (x, y) for x, y in pairs}.values())) for var, one, two,
                    pairs in relation_from(number * 5, most=5))
                if any(not pairs for _, _, _, pairs in turn):
                    continue
                self.assertTrue(is_turn(turn))
                program = program_of(kind[2][2][2], number * number * 7919 + (number ** 9 << 20), 4)
                shapes = [value_from(with_kind(part, {"a": UNIT, "b": UNIT, "c": UNIT}), number * 17 + at) for at,
                    part in enumerate(asked)]
                drawn = {var: pairs[number % len(pairs)][0] for var, _, _, pairs in turn}
                arguments = tuple(replaced(part, shape, lambda var, _: drawn[var]) for part, shape in zip(asked, shapes))
                beside = {var: dict((repr(x), y) for x, y in pairs) for var, _, _, pairs in turn}
                there = tuple(turned(part, turn, argument) for part, argument in zip(asked, arguments))
                self.assertEqual(there, tuple(replaced(part, argument, lambda var, x: beside[var][repr(x)]) for part,
                    argument in zip(asked, arguments)))
                if is_written(program):
                    ones, twos = fillings(turn)
                    self.assertEqual(turned(left, turn, told(program, ones, arguments)), told(program, twos, there))
                    self.assertEqual(both_told(program, turn, arguments, there),
                        (told(program, ones, arguments), told(program, twos, there)))
                    ran += 1
        self.assertGreater(ran, 150)

    def test_errors(self):
        rows = (
            ((A, (), 1), Unfilled, "a"), ((K("(c, b)"), TENS, 1), Unfilled, "b"), ((A, SIGNS, 1), InvalidRelation, None),
            ((NUM, SIGNS, None), InvalidRelation, None), ((B, SIGNS, None), Unfilled, "b"),
            ((A, TENS, 4), InvalidValue, 4), ((A, TENS, True), InvalidValue, True), ((K("list a"), TENS, [1]), InvalidValue, [1]),
            ((K("list a"), TENS, (1, 0)), InvalidValue, (1, 0)), ((K("list a"), TENS, (10,)), InvalidValue, (10,)),
            ((K("(a, num)"), TENS, ("pair", 1, ())), InvalidValue, ("pair", 1, ())),
            ((K("a | num"), TENS, ("left", 5)), InvalidValue, ("left", 5)),
            ((K("a | num"), NONE, ("left", 1)), InvalidValue, ("left", 1)),
            ((K("a -> num"), None, None), InvalidKind, K("a -> num")), ((A, [], None), InvalidRelation, None),
            ((A, TENS + TENS, None), InvalidRelation, 1),
        )
        for told_here, error, kept in rows:
            for ask in (lambda: turned(*told_here), lambda: turned(value=told_here[2], turn=told_here[1], kind=told_here[0])):
                with self.assertRaises(error) as caught:
                    ask()
                self.assertIs(type(caught.exception), error)
                self.assertEqual(list(vars(caught.exception).values()), [kept])
        for thing in odd_things():
            if thing != 1 or thing is True:
                with self.assertRaises(InvalidValue) as caught:
                    turned(A, TENS, thing)
                self.assertIs(caught.exception.given, thing)


class TestBothTold(unittest.TestCase):
    def test_each_row(self):
        rows = (
            (TWICE, TENS, ((1, 2),), ((10, 20),), ((1, 1, 2, 2), (10, 10, 20, 20))), (TWICE, NONE, ((),), ((),), ((), ())),
            (T("3"), (), (), (), (3, 3)), (T("nil(a)"), TENS, (), (), ((), ())),
            (T("fn f: a -> num. fn x: a. f(x)"), TENS, (T("fn x: num. x * 10"), 2), (T("fn x: num. x"), 20), (20, 20)),
            (T("fn f: a -> a. fn x: a. f(f(x))"), (("a", NUM, NUM, ((1, 10), (2, 20), (4, 40))),),
                (T("fn x: num. case x < 4 {u. x * 2; v. x}"), 1), (T("fn x: num. case x < 40 {u. x + x; v. x}"), 10), (4, 40)),
            (T("fn t: a -> unit | unit. fn l: list a. fold(fn x: a. fn r: list a. case t(x) {u. cons(x, r); v. r}, nil(a), l)"),
                TENS, (T("fn x: num. x < 3"), (3, 1, 2)), (T("fn x: num. x < 25"), (30, 10, 20)), ((1, 2), (10, 20))),
            (T("fn s: a -> b -> b. fn z: b. fn l: list a. fold(s, z, l)"),
                (("a", NUM, NUM, ((1, 10), (2, 20))), ("b", NUM, UNIT, ((0, ()), (1, ()), (2, ())))),
             (T("fn x: num. fn r: num. case r < x {u. 2; v. 1}"), 0, (1, 2, 1)),
             (T("fn x: num. fn r: unit. r"), (), (10, 20, 10)), (1, ())),
        )
        for program, relation, ones, twos, both in rows:
            self.assertEqual(both_told(program, relation, ones, twos), both)
            self.assertEqual(both_told(twos=twos, ones=ones, relation=relation, program=program), both)

    def test_what_is_told_of_related_arguments_is_related(self):
        kinds = ("num", "list a", "(a -> b) -> list a -> (b, list b)", "(a -> b -> b) -> list a -> b",
            "(a, b) | c -> (c -> unit | unit) -> list c -> list c")
        counts = [0, 0]
        for text in kinds:
            kind = ("fun", A, ("fun", B, ("fun", C, K(text))))
            asked, left = row_of(kind)
            for number in range(1, 160):
                relation, seed = relation_from(number * 11, most=4), number * number * 7919 + (number ** 9 << 16)
                pairs, program = pairs_of(relation), program_of(kind[2][2][2], seed, 4)
                sides = [self.things(asked, relation, side, number) for side in (0, 1)]
                if not is_written(program) or None in sides or not all(is_written(part) for side in sides for part,
                    kind_asked in zip(side, asked) if kind_asked[0] == "fun"):
                    continue
                means = [[meant(part) if kind_asked[0] == "fun" else part for part,
                    kind_asked in zip(side, asked)] for side in sides]
                related = [is_related(part, pairs, one, two) for part, one, two in zip(asked, *means)]
                counts[all(related)] += 1
                if all(related):
                    one, two = both_told(program, relation, tuple(sides[0]), tuple(sides[1]))
                    self.assertEqual((one, two), (given(meant(program), means[0]), given(meant(program), means[1])))
                    self.assertTrue(are_related(left, relation, one, two))
                else:
                    with self.assertRaises(NotRelated) as caught:
                        both_told(program, relation, tuple(sides[0]), tuple(sides[1]))
                    self.assertEqual(caught.exception.index, related.index(False))
        self.assertGreater(min(counts), 60)

    def things(self, asked, relation, side, number):
        """For each kind a thing of one side; those of data kinds with things that stand beside one another."""
        found = []
        for at, part in enumerate(asked):
            if part[0] == "fun":
                found.append(closed_thing(part, (ones_of, twos_of)[side](relation), number * 7919 + at, 3))
                continue
            shape = value_from(with_kind(part, {"a": UNIT, "b": UNIT, "c": UNIT}), number * 5 + at)
            drawn = {var: pairs[(number + at) % len(pairs)][side] for var, _, _, pairs in relation if pairs}
            if not {var for var, _ in spots(part, shape)} <= set(drawn):
                return None
            found.append(replaced(part, shape, lambda var, _: drawn[var]))
        return found

    def test_folds_of_related_steps(self):
        fold = T("fn s: a -> b -> b. fn z: b. fn l: list a. fold(s, z, l)")
        relation = (("a", NUM, NUM, ((0, 1), (1, 2), (2, 0))),
            ("b", NUM, TRUTH, tuple((at, YES if at % 2 == 0 else NO) for at in range(5))))
        one = T("fn x: num. fn r: num. case x == 2 {u. r; v. case r == 4 {u. 3; v. r + 1}}")
        two = T("fn x: num. fn r: unit | unit. case x == 0 {u. r; v. case r {w. right(unit, w); w. left(w, unit)}}")
        for length in range(4):
            for row in itertools.product((0, 1, 2), repeat=length):
                beside = tuple((x + 1) % 3 for x in row)
                first, second = both_told(fold, relation, (one, 0, row), (two, YES, beside))
                self.assertTrue(are_related(B, relation, first, second))

    def test_errors(self):
        pick, asks = T("fn x: a. fn n: num. x"), T("fn f: num -> a. f(3)")
        tests = T("fn t: a -> a -> num. fn x: a. t(x)(x)")
        steady = T("fn x: num. fn y: num. 1")
        rows = (
            ((("fn",), None, None, None), InvalidTerm, ()), ((T("fn x: a. x + 1"), None, None, None), WrongTerm, (3, 1)),
            ((pick, None, None, None), InvalidRelation, None), ((pick, TENS + TENS, None, None), InvalidRelation, 1),
            ((pick, (), None, None), Unfilled, "a"), ((T("fn x: a. nil(b)"), TENS, None, None), Unfilled, "b"),
            ((pick, TENS, None, None), InvalidArguments, None), ((pick, SIGNS, (YES, 3), None), InvalidArguments, 0),
            ((pick, TENS, (1, ()), None), InvalidArguments, 1), ((pick, TENS, (1, 1, 1), None), InvalidArguments, 2),
            ((pick, TENS, (1,), None), NotData, ("fun", NUM, NUM)),
            ((pick, SIGNS, (), None), NotData, ("fun", NUM, ("fun", NUM, NUM))),
            ((pick, SIGNS, (3, 1), None), InvalidArguments, None), ((pick, SIGNS, (3, 1), (3, 1)), InvalidArguments, 0),
            ((pick, SIGNS, (3, 1), (YES, 1, 1)), InvalidArguments, 2),
            ((pick, SIGNS, (3, 1), (YES,)), NotData, ("fun", NUM, TRUTH)),
            ((asks, TENS, (T("fn x: num. 1"),), (T("fn x: num. 10"),)), InvalidKind, K("num -> a")),
            ((asks, TENS, (T("fn x: num. 1"),), (3,)), InvalidArguments, 0),
            ((T("fn g: a -> num. fn f: list a -> a. 3"), many(500), (T("fn x: num. 1"), T("fn l: list num. 1")),
                (T("fn x: num. 1"), T("fn l: list num. 1"))), InvalidKind, K("list a -> a")),
            ((tests, many(21), (steady, 77), (steady, 77)), TooMany, 441),
            ((tests, many(20), (steady, 77), (steady, 77)), NotRelated, 1),
            ((tests, many(20), (steady, 3), (T("fn x: num. fn y: num. 2"), 77)), NotRelated, 0),
            ((pick, TENS, (1, 4), (10, 5)), NotRelated, 1), ((pick, TENS, (1, 4), (20, 5)), NotRelated, 0),
            ((T("fn g: a -> num. fn f: a -> a -> num. 3"), many(401), (T("fn x: num. 1"), steady), (T("fn x: num. 2"), steady)),
                TooMany, 401), ((T("nil(num -> num)"), (), (), ()), NotData, ("list", ("fun", NUM, NUM))),
            ((T("fn x: a. nil(num -> num)"), TENS, (1,), (10,)), NotData, ("list", ("fun", NUM, NUM))),
        )
        for told_here, error, kept in rows:
            for ask in (lambda: both_told(*told_here),
                lambda: both_told(twos=told_here[3], ones=told_here[2], relation=told_here[1], program=told_here[0])):
                with self.assertRaises(error) as caught:
                    ask()
                self.assertIs(type(caught.exception), error)
                self.assertEqual(list(vars(caught.exception).values()), [kept])

    def test_nothing_that_was_passed_is_changed(self):
        told_here = (TWICE, TENS, ((1, 2),), ((10, 20),), SIGNS, K("list a"))
        before = copy.deepcopy(told_here)
        for _ in range(2):
            self.assertEqual(both_told(*told_here[:4]), ((1, 1, 2, 2), (10, 10, 20, 20)))
            self.assertEqual(way_apart(told_here[5], SIGNS, (0, 3), (NO, NO)), (0,))
            self.assertEqual(behind(flipped(SIGNS), SIGNS)[0][1:3], (TRUTH, TRUTH))
        self.assertEqual(told_here, before)


if __name__ == "__main__":
    unittest.main()

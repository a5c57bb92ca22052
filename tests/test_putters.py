"""Points 4, 5, 6 and D5: programs that are given a putter of pairs of numbers, and whether they put lists in order."""

import copy
import itertools
import unittest

from bykindalone.errors import InvalidNumber, InvalidNumbers, InvalidTerm, NotPutting, WrongTerm
from bykindalone.meaning import told
from bykindalone.putters import out_of_order, put_by, puts_in_order
from bykindalone.terms import is_written
from bykindalone.text import read_kind, read_term
from meant import given, meant
from things import A, NUM, UNIT, odd_things

T, K = read_term, read_kind
SAME = T("fn p: (a, a) -> (a, a). fn l: list a. l")
NOTHING = T("fn p: (a, a) -> (a, a). fn l: list a. nil(a)")
DOUBLE = T("fn p: (a, a) -> (a, a). fn l: list a. fold(fn x: a. fn r: list a. cons(x, cons(x, r)), nil(a), l)")
# Puts a thing into a list that is in order: what is held goes on, the lesser one stays.
INTO = (
    "fn x: a. fn s: list a. let q = fold(fn y: a. fn f: a -> list a. fn h: a. let q = p((h, y)) in cons(first(q), f(second(q))), "
    "fn h: a. cons(h, nil(a)), s) in q(x)"
)
SORT = T(f"fn p: (a, a) -> (a, a). fn l: list a. fold({INTO}, nil(a), l)")
# One round: the least thing comes first, what is behind it stays as it comes.
ROUND = (
    "fn l: list a. case fold(fn x: a. fn s: unit | (a, list a). case s {u. right(unit, (x, nil(a))); "
    "q. let t = p((x, first(q))) in right(unit, (first(t), cons(second(t), second(q))))}, left((), (a, list a)), l) "
    "{u. nil(a); q. cons(first(q), second(q))}"
)
LEAST_FIRST = T(f"fn p: (a, a) -> (a, a). {ROUND}")
TWO_ROUNDS = T(f"fn p: (a, a) -> (a, a). fn l: list a. let f = {ROUND} in f(f(l))")
TURNED = "fn l: list a. fold(fn x: a. fn f: list a -> list a. fn r: list a. f(cons(x, r)), fn r: list a. r, l)(nil(a))"
# What may be done with a list, @; one of these may stand within another one.
ROUND_OF = ROUND.removeprefix("fn l: list a. ").replace("(a, list a)), l)", "(a, list a)), @)")
PIECES = (
    "@", TURNED.removeprefix("fn l: list a. ").replace("r, l)", "r, @)"), ROUND_OF, f"fold({INTO}, nil(a), @)",
    ROUND_OF.replace("cons(second(t)", "cons(first(t)"),
    ROUND_OF.replace("(first(t), cons(second(t)", "(second(t), cons(first(t)"),
    "fold(fn x: a. fn r: list a. cons(first(p((x, x))), r), nil(a), @)",
    f"fold({INTO.replace('cons(first(q), f(second(q)))', 'cons(second(q), f(first(q)))')}, nil(a), @)",
)
BACK = T(f"fn p: (a, a) -> (a, a). {TURNED}")
OTHER_VARIABLE = T("fn p: (b, b) -> (b, b). fn l: list b. l")


def put_again(program, numbers):
    """What the program means of the numbers with the putter."""
    return given(meant(program), [lambda pair: ("pair",) + tuple(sorted(pair[1:])), numbers])


def lists_in_order(length):
    return list(itertools.product((0, 1), repeat=length))


def counted_lists(length, many):
    """Lists of numbers with equal and negative ones among them, drawn by counting."""
    found = []
    for number in range(1, many + 1):
        drawn = number * 2654435761 + length * 40503
        found.append(tuple((drawn * (at + 3) ** 5 >> 7) % (5 + number % 23) - 4 for at in range(length)))
    return found


class TestPutBy(unittest.TestCase):
    def test_each_row(self):
        rows = (
            (SAME, (), ()), (SAME, (3, 1, 2), (3, 1, 2)), (NOTHING, (3, 1, 2), ()), (DOUBLE, (3, 1), (3, 3, 1, 1)),
            (BACK, (3, 1, 2), (2, 1, 3)),
            (SORT, (), ()), (SORT, (5,), (5,)), (SORT, (3, 1, 2), (1, 2, 3)), (SORT, (2, -1, 2, 0, -1), (-1, -1, 0, 2, 2)),
            (LEAST_FIRST, (3, 1, 2), (1, 3, 2)),
            (TWO_ROUNDS, (3, 1, 2), (1, 2, 3)), (LEAST_FIRST, (2, 2, 2), (2, 2, 2)), (OTHER_VARIABLE, (2, 1), (2, 1)),
            (T("fn p: (a, a) -> (a, a). fn l: list a. fold(fn x: a. fn r: list a. let q = p((x, x)) in cons(first(q), r), nil(a), l)"), (3, 1), (3, 1)),
            (T("fn p: (c, c) -> (c, c). fn l: list c. fold(fn x: c. fn r: list c. fold(fn y: c. fn s: list c. cons(second(p((x, y))), s), nil(c), l), nil(c), l)"),
             (3, 5, 1), (3, 5, 3)),
        )
        for program, numbers, answer in rows:
            self.assertEqual(put_by(program, numbers), answer)
            self.assertEqual(put_by(numbers=numbers, program=program), answer)
            self.assertEqual(put_again(program, numbers), answer)

    def test_the_putter_gives_the_lesser_one_first(self):
        pair = T("fn p: (a, a) -> (a, a). fn l: list a. " + "fold(fn x: a. fn r: list a. fold(fn y: a. fn s: list a. "
                 "let q = p((x, y)) in cons(first(q), cons(second(q), nil(a))), nil(a), r), l, l)")
        for one, two in itertools.product((-10 ** 80, -2, -1, 0, 1, 2, 10 ** 80), repeat=2):
            numbers = (one, two)
            self.assertEqual(put_by(pair, numbers), put_again(pair, numbers))
            self.assertEqual(put_by(SORT, numbers), (min(numbers), max(numbers)))

    def test_lists_of_forty(self):
        numbers = tuple(at * 37 % 41 - 20 for at in range(40))
        self.assertEqual(put_by(SORT, numbers), tuple(sorted(numbers)))
        self.assertEqual(put_by(SAME, numbers), numbers)
        for program in (SORT, SAME):
            with self.assertRaises(InvalidNumbers) as caught:
                put_by(program, numbers + (0,))
            self.assertIsNone(caught.exception.index)

    def test_a_term_for_the_putter_tells_the_same(self):
        putter = T("fn q: (num, num). case first(q) <= second(q) {u. q; u. (second(q), first(q))}")
        for program in (SAME, SORT, LEAST_FIRST, TWO_ROUNDS, BACK, DOUBLE):
            for numbers in counted_lists(5, 10):
                self.assertEqual(put_by(program, numbers), told(program, (("a", NUM),), (putter, numbers)))


class TestOrder(unittest.TestCase):
    def test_each_row(self):
        rows = (
            (SAME, (True, True, False, False), (1, 0)), (NOTHING, (True, False, False, False), (0,)),
            (DOUBLE, (True, False, False), (0,)),
            (LEAST_FIRST, (True, True, True, False, False), (1, 0, 0)),
            (TWO_ROUNDS, (True, True, True, True, False), (1, 0, 0, 0)),
            (SORT, (True,) * 9, None), (BACK, (True, True, False, False), (0, 1)),
        )
        for program, known, first in rows:
            for length, holds in enumerate(known):
                self.assertIs(puts_in_order(program, length), holds)
                self.assertIs(puts_in_order(length=length, program=program), holds)
                found = out_of_order(program, length)
                self.assertEqual(out_of_order(length=length, program=program), found)
                self.assertEqual(found is None, holds)
            if first is not None:
                self.assertEqual(out_of_order(program, len(first)), first)

    def test_the_first_list_that_is_not_put_in_order(self):
        for program in (SAME, NOTHING, DOUBLE, LEAST_FIRST, TWO_ROUNDS, BACK, SORT):
            for length in range(7):
                wrong = [row for row in lists_in_order(length) if put_again(program, row) != tuple(sorted(row))]
                self.assertEqual(out_of_order(program, length), wrong[0] if wrong else None)
                self.assertIs(puts_in_order(program, length), not wrong)

    def test_lists_of_any_numbers_come_out_in_order_exactly_if_noughts_and_ones_do(self):
        for program in (SAME, NOTHING, DOUBLE, LEAST_FIRST, TWO_ROUNDS, BACK, SORT):
            for length in range(8):
                rows = counted_lists(length, 60) + [tuple(range(length)), tuple(range(length))[::-1], (7,) * length]
                if puts_in_order(program, length):
                    for numbers in rows:
                        self.assertEqual(put_by(program, numbers), tuple(sorted(numbers)))
                else:
                    numbers = out_of_order(program, length)
                    self.assertEqual(len(numbers), length)
                    self.assertLessEqual(set(numbers), {0, 1})
                    self.assertNotEqual(put_by(program, numbers), tuple(sorted(numbers)))

    def test_programs_made_of_two(self):
        counts = [0, 0]
        for one, two in itertools.product(PIECES, repeat=2):
            program = T("fn p: (a, a) -> (a, a). fn l: list a. " + one.replace("@", two.replace("@", "l")))
            if not is_written(program):
                continue
            for length in (3, 4):
                wrong = [row for row in lists_in_order(length) if put_again(program, row) != tuple(sorted(row))]
                self.assertEqual(out_of_order(program, length), wrong[0] if wrong else None)
                every = all(put_by(program, row) == tuple(sorted(row)) for row in itertools.product((-1, 4, 7, 7, 9)[:length + 1],
                    repeat=length))
                self.assertIs(puts_in_order(program, length), every)
                counts[every] += 1
        self.assertGreater(min(counts), 12)

    def test_ten_and_eleven(self):
        self.assertTrue(puts_in_order(SORT, 10))
        self.assertEqual(out_of_order(SAME, 10), (0,) * 8 + (1, 0))
        self.assertIsNone(out_of_order(SORT, 0))
        for ask, length in itertools.product((puts_in_order, out_of_order), (11, 12, -1, 10 ** 30)):
            with self.assertRaises(InvalidNumber) as caught:
                ask(SAME, length)
            self.assertEqual(caught.exception.given, length)


class TestErrors(unittest.TestCase):
    def raises(self, error, kept, ask, program, told_here):
        name = "numbers" if ask is put_by else "length"
        for run in (lambda: ask(program, told_here), lambda: ask(**{name: told_here, "program": program})):
            with self.assertRaises(error) as caught:
                run()
            self.assertIs(type(caught.exception), error)
            self.assertEqual(list(vars(caught.exception).values()), [kept])

    def test_programs(self):
        rows = [(("fn",), InvalidTerm, ()), (None, InvalidTerm, ()), (("name", "x"), WrongTerm, ()),
            (T("fn x: a. x + 1"), WrongTerm, (3, 1))]
        for text, kind in (
            ("3", "num"), ("fn l: list a. l", "list a -> list a"), ("fn p: (a, a) -> (a, a). 3", "((a, a) -> (a, a)) -> num"),
            ("fn p: (a, b) -> (a, b). fn l: list a. l", "((a, b) -> (a, b)) -> list a -> list a"),
            ("fn p: (a, a) -> (a, a). fn l: list b. l", "((a, a) -> (a, a)) -> list b -> list b"),
            ("fn p: (num, num) -> (num, num). fn l: list num. l", "((num, num) -> (num, num)) -> list num -> list num"),
            ("fn p: (a, a) -> a. fn l: list a. l", "((a, a) -> a) -> list a -> list a"),
            ("fn l: list a. fn p: (a, a) -> (a, a). l", "list a -> ((a, a) -> (a, a)) -> list a"),
            ("fn p: (a, a) -> (a, a). fn l: list a. fn m: list a. l", "((a, a) -> (a, a)) -> list a -> list a -> list a"),
            ("fn p: (a, a) -> (a, a). fn l: list a. (l, l)", "((a, a) -> (a, a)) -> list a -> (list a, list a)"),
            ("fn p: a -> a -> unit | unit. fn l: list a. l", "(a -> a -> unit | unit) -> list a -> list a"),
            ("fn p: (list a, list a) -> (list a, list a). fn l: list (list a). l",
                "((list a, list a) -> (list a, list a)) -> list (list a) -> list (list a)"),
        ):
            rows.append((T(text), NotPutting, K(kind)))
        for program, error, kept in rows:
            self.raises(error, kept, put_by, program, None)
            self.raises(error, kept, puts_in_order, program, None)
            self.raises(error, kept, out_of_order, program, None)

    def test_each_variable_is_taken(self):
        for var in "abc":
            program = T(f"fn p: ({var}, {var}) -> ({var}, {var}). fn l: list {var}. l")
            self.assertEqual(put_by(program, (2, 1)), (2, 1))
            self.assertFalse(puts_in_order(program, 2))
            self.assertEqual(out_of_order(program, 2), (1, 0))

    def test_numbers(self):
        rows = (
            (None, None), ([1, 2], None), ({1}, None), ("12", None), (12, None), ((1, True), 1), ((False,), 0),
            ((1, 2, "3", None), 2), (((),), 0), ((1, (2,)), 1), ((None,) * 40, 0),
            ((None,) * 41, None), ((1,) * 41, None),
        )
        for numbers, index in rows:
            self.raises(InvalidNumbers, index, put_by, SAME, numbers)
        for thing in odd_things():
            if not isinstance(thing, int) or isinstance(thing, bool):
                self.raises(InvalidNumbers, 2, put_by, SAME, (1, 2, thing))
            if not isinstance(thing, tuple):
                self.raises(InvalidNumbers, None, put_by, SAME, thing)

    def test_lengths(self):
        for ask in (puts_in_order, out_of_order):
            for thing in odd_things() + [11, -1, [3], (3,), "3", b"3"]:
                if thing in (0, 1) and not isinstance(thing, bool):
                    continue
                self.raises(InvalidNumber, thing, ask, SAME, thing)

    def test_nothing_that_was_passed_is_changed(self):
        numbers = (3, 1, 2)
        before = copy.deepcopy((SORT, numbers))
        for _ in range(2):
            self.assertEqual(put_by(SORT, numbers), (1, 2, 3))
            self.assertTrue(puts_in_order(SORT, 3))
        self.assertEqual((SORT, numbers), before)


if __name__ == "__main__":
    unittest.main()

"""Points 4, 5, 6, C4 and C7: the promise of a kind as a tuple and in words, and its equation."""

import copy
import itertools
import re
import unittest

from bykindalone.errors import InvalidKind
from bykindalone.kinds import TRUTH, depth_of_kind, is_closed_kind, is_data_kind
from bykindalone.promises import equation_text, promise_of, promise_text
from bykindalone.text import show_kind
from made import kind_from
from things import A, B, C, NUM, UNIT, Unhashable, chain, deep_things, odd_things

BOTH = (("one",), ("two",))
X1, Y1, X2, Y2, X3, Y3 = ("x", 1), ("y", 1), ("x", 2), ("y", 2), ("x", 3), ("y", 3)
ALL_BASES = (NUM, UNIT, A, B, C)
TOLD = ("told", ("one",), X1), ("told", ("two",), Y1)
TOLD_TOLD = ("told", TOLD[0], X2), ("told", TOLD[1], Y2)
FIRST = ("first", ("one",)), ("first", ("two",))
SECOND = ("second", ("one",)), ("second", ("two",))

# Each kind beside its promise, and the same in words.
PROMISES = (
    (NUM, ("same", *BOTH), "one = two"),
    (UNIT, ("same", *BOTH), "one = two"),
    (TRUTH, ("same", *BOTH), "one = two"),
    (("list", NUM), ("same", *BOTH), "one = two"),
    (("pair", NUM, ("list", ("either", UNIT, NUM))), ("same", *BOTH), "one = two"),
    (A, ("by", "a", *BOTH), "one ~a two"),
    (C, ("by", "c", *BOTH), "one ~c two"),
    (("pair", A, B), ("both", ("by", "a", *FIRST), ("by", "b", *SECOND)), "(one.first ~a two.first and one.second ~b two.second)"),
    (("pair", NUM, A), ("both", ("same", *FIRST), ("by", "a", *SECOND)), "(one.first = two.first and one.second ~a two.second)"),
    (("either", A, NUM), ("sides", 1, *BOTH, ("by", "a", X1, Y1), ("same", X1, Y1)),
     "(one and two are left x1, y1 with x1 ~a y1 or right x1, y1 with x1 = y1)"),
    (("list", B), ("each", 1, *BOTH, ("by", "b", X1, Y1)), "(one and two are as long, each x1, y1 with x1 ~b y1)"),
    (("list", ("list", A)), ("each", 1, *BOTH, ("each", 2, X1, Y1, ("by", "a", X2, Y2))),
     "(one and two are as long, each x1, y1 with (x1 and y1 are as long, each x2, y2 with x2 ~a y2))"),
    (("fun", A, A), ("all", 1, A, ("by", "a", X1, Y1), ("by", "a", *TOLD)), "(all x1, y1 of a with x1 ~a y1 have one(x1) ~a two(y1))"),
    (("fun", NUM, A), ("all", 1, NUM, ("same", X1, Y1), ("by", "a", *TOLD)), "(all x1, y1 of num with x1 = y1 have one(x1) ~a two(y1))"),
    (("fun", TRUTH, A), ("all", 1, TRUTH, ("same", X1, Y1), ("by", "a", *TOLD)),
     "(all x1, y1 of unit | unit with x1 = y1 have one(x1) ~a two(y1))"),
    # Only at closed kinds of data it is told by "same": functions are alike, argument by argument.
    (("fun", NUM, NUM), ("all", 1, NUM, ("same", X1, Y1), ("same", *TOLD)), "(all x1, y1 of num with x1 = y1 have one(x1) = two(y1))"),
    (("list", ("fun", NUM, UNIT)),
     ("each", 1, *BOTH, ("all", 2, NUM, ("same", X2, Y2), ("same", ("told", X1, X2), ("told", Y1, Y2)))),
     "(one and two are as long, each x1, y1 with (all x2, y2 of num with x2 = y2 have x1(x2) = y1(y2)))"),
    (("pair", NUM, ("fun", NUM, NUM)),
     ("both", ("same", *FIRST), ("all", 1, NUM, ("same", X1, Y1), ("same", ("told", SECOND[0], X1), ("told", SECOND[1], Y1)))),
     "(one.first = two.first and (all x1, y1 of num with x1 = y1 have one.second(x1) = two.second(y1)))"),
    (("either", UNIT, ("fun", UNIT, NUM)),
     ("sides", 1, *BOTH, ("same", X1, Y1), ("all", 2, UNIT, ("same", X2, Y2), ("same", ("told", X1, X2), ("told", Y1, Y2)))),
     "(one and two are left x1, y1 with x1 = y1 or right x1, y1 with (all x2, y2 of unit with x2 = y2 have x1(x2) = y1(y2)))"),
    (("fun", A, ("fun", B, A)),
     ("all", 1, A, ("by", "a", X1, Y1), ("all", 2, B, ("by", "b", X2, Y2), ("by", "a", *TOLD_TOLD))),
     "(all x1, y1 of a with x1 ~a y1 have (all x2, y2 of b with x2 ~b y2 have one(x1)(x2) ~a two(y1)(y2)))"),
    (("fun", ("fun", A, B), NUM),
     ("all", 1, ("fun", A, B),
      ("all", 2, A, ("by", "a", X2, Y2), ("by", "b", ("told", X1, X2), ("told", Y1, Y2))), ("same", *TOLD)),
     "(all x1, y1 of a -> b with (all x2, y2 of a with x2 ~a y2 have x1(x2) ~b y1(y2)) have one(x1) = two(y1))"),
    (("fun", ("list", A), ("list", ("pair", A, NUM))),
     ("all", 1, ("list", A), ("each", 2, X1, Y1, ("by", "a", X2, Y2)),
      ("each", 3, *TOLD, ("both", ("by", "a", ("first", X3), ("first", Y3)), ("same", ("second", X3), ("second", Y3))))),
     "(all x1, y1 of list a with (x1 and y1 are as long, each x2, y2 with x2 ~a y2) have (one(x1) and two(y1) are as long, "
     "each x3, y3 with (x3.first ~a y3.first and x3.second = y3.second)))"),
    (("pair", ("list", A), ("list", B)),
     ("both", ("each", 1, *FIRST, ("by", "a", X1, Y1)), ("each", 2, *SECOND, ("by", "b", X2, Y2))),
     "((one.first and two.first are as long, each x1, y1 with x1 ~a y1) and "
     "(one.second and two.second are as long, each x2, y2 with x2 ~b y2))"),
    (("either", ("list", A), ("either", B, ("list", A))),
     ("sides", 1, *BOTH, ("each", 2, X1, Y1, ("by", "a", X2, Y2)),
      ("sides", 3, X1, Y1, ("by", "b", X3, Y3), ("each", 4, X3, Y3, ("by", "a", ("x", 4), ("y", 4))))),
     "(one and two are left x1, y1 with (x1 and y1 are as long, each x2, y2 with x2 ~a y2) or right x1, y1 with "
     "(x1 and y1 are left x3, y3 with x3 ~b y3 or right x3, y3 with (x3 and y3 are as long, each x4, y4 with x4 ~a y4)))"),
    (("fun", ("pair", A, B), ("pair", ("fun", A, A), C)),
     ("all", 1, ("pair", A, B), ("both", ("by", "a", ("first", X1), ("first", Y1)), ("by", "b", ("second", X1), ("second", Y1))),
      ("both", ("all", 2, A, ("by", "a", X2, Y2), ("by", "a", ("told", ("first", TOLD[0]), X2), ("told", ("first", TOLD[1]), Y2))),
       ("by", "c", ("second", TOLD[0]), ("second", TOLD[1])))),
     "(all x1, y1 of (a, b) with (x1.first ~a y1.first and x1.second ~b y1.second) have ((all x2, y2 of a with x2 ~a y2 have "
     "one(x1).first(x2) ~a two(y1).first(y2)) and one(x1).second ~c two(y1).second))"),
)
EQUATIONS = (
    (("fun", A, A), "turned one(x1) = two(turned x1)"), (("fun", NUM, A), "turned one(x1) = two(x1)"),
    (("fun", A, NUM), "one(x1) = two(turned x1)"), (("fun", NUM, NUM), "one(x1) = two(x1)"), (("fun", UNIT, TRUTH), "one(x1) = two(x1)"),
    (("fun", ("list", A), ("list", A)), "turned one(x1) = two(turned x1)"),
    (("fun", A, ("fun", B, C)), "turned one(x1)(x2) = two(turned x1)(turned x2)"),
    (("fun", A, ("fun", NUM, C)), "turned one(x1)(x2) = two(turned x1)(x2)"),
    (("fun", NUM, ("fun", ("pair", NUM, B), TRUTH)), "one(x1)(x2) = two(x1)(turned x2)"),
    (("fun", ("either", A, NUM), ("fun", ("pair", UNIT, UNIT), ("fun", ("list", C), ("pair", NUM, A)))),
     "turned one(x1)(x2)(x3) = two(turned x1)(x2)(turned x3)"),
    (("fun", A, ("fun", NUM, ("fun", B, ("fun", NUM, ("fun", C, NUM))))),
     "one(x1)(x2)(x3)(x4)(x5) = two(turned x1)(x2)(turned x3)(x4)(turned x5)"),
)
NO_EQUATIONS = (
    NUM, UNIT, A, TRUTH, ("list", A), ("pair", A, NUM), ("fun", ("fun", A, A), A), ("fun", A, ("pair", NUM, ("fun", A, A))),
    ("fun", ("list", ("fun", NUM, NUM)), NUM), ("fun", A, ("fun", ("fun", NUM, NUM), NUM)), ("list", ("fun", A, A)),
    ("fun", ("pair", A, ("fun", A, A)), NUM), ("pair", ("fun", A, A), A), ("fun", A, ("list", ("fun", A, A))),
)


def promise_at(kind, one, two, numbers):
    """The promise told apart from the program: numbers are given out in the order in which they are asked for."""
    word = kind[0]
    if is_closed_kind(kind) and is_data_kind(kind):
        return ("same", one, two)
    if word == "var":
        return ("by", kind[1], one, two)
    if word == "pair":
        return ("both", promise_at(kind[1], ("first", one), ("first", two), numbers),
                promise_at(kind[2], ("second", one), ("second", two), numbers))
    number = next(numbers)
    x, y = ("x", number), ("y", number)
    first = promise_at(kind[1], x, y, numbers)
    if word == "list":
        return ("each", number, one, two, first)
    if word == "either":
        return ("sides", number, one, two, first, promise_at(kind[2], x, y, numbers))
    return ("all", number, kind[1], first, promise_at(kind[2], ("told", one, x), ("told", two, y), numbers))


def thing_words(thing):
    word, *parts = thing
    return {
        "one": lambda: "one", "two": lambda: "two", "x": lambda: f"x{parts[0]}", "y": lambda: f"y{parts[0]}",
        "told": lambda: f"{thing_words(parts[0])}({thing_words(parts[1])})", "first": lambda: thing_words(parts[0]) + ".first",
        "second": lambda: thing_words(parts[0]) + ".second",
    }[word]()


def promise_words(promise):
    word, *parts = promise
    if word == "same":
        return f"{thing_words(parts[0])} = {thing_words(parts[1])}"
    if word == "by":
        return f"{thing_words(parts[1])} ~{parts[0]} {thing_words(parts[2])}"
    if word == "both":
        return f"({promise_words(parts[0])} and {promise_words(parts[1])})"
    pair = f"x{parts[0]}, y{parts[0]}"
    if word == "all":
        return f"(all {pair} of {show_kind(parts[1])} with {promise_words(parts[2])} have {promise_words(parts[3])})"
    told = f"{thing_words(parts[1])} and {thing_words(parts[2])} are"
    if word == "each":
        return f"({told} as long, each {pair} with {promise_words(parts[3])})"
    return f"({told} left {pair} with {promise_words(parts[3])} or right {pair} with {promise_words(parts[4])})"


# What a promise says, looked through where only few things are: a function is a tuple of pairs of a thing and what it
# tells of it, in order; lists have up to two things; numbers are 0 and 1.


def all_of(kind, side):
    """All things of the kind; side tells those of each variable."""
    word = kind[0]
    if word == "var":
        return side[kind[1]]
    if word == "unit":
        return [()]
    if word == "num":
        return [0, 1]
    if word == "pair":
        return [("pair", one, two) for one in all_of(kind[1], side) for two in all_of(kind[2], side)]
    if word == "either":
        return [("left", one) for one in all_of(kind[1], side)] + [("right", two) for two in all_of(kind[2], side)]
    things = all_of(kind[1], side)
    if word == "list":
        return [row for many in (0, 1, 2) for row in itertools.product(things, repeat=many)]
    return [tuple(zip(things, told)) for told in itertools.product(all_of(kind[2], side), repeat=len(things))]


def called(function, argument):
    return next(told for thing, told in function if thing == argument)


def related(kind, one, two, relation):
    """As point C2 tells it."""
    word = kind[0]
    if word == "var":
        return (one, two) in relation["pairs"][kind[1]]
    if word in ("unit", "num"):
        return one == two
    if word == "pair":
        return related(kind[1], one[1], two[1], relation) and related(kind[2], one[2], two[2], relation)
    if word == "either":
        return one[0] == two[0] and related(kind[1 if one[0] == "left" else 2], one[1], two[1], relation)
    if word == "list":
        return len(one) == len(two) and all(related(kind[1], x, y, relation) for x, y in zip(one, two))
    return all(
        related(kind[2], called(one, x), called(two, y), relation)
        for x in all_of(kind[1], relation["ones"]) for y in all_of(kind[1], relation["twos"])
        if related(kind[1], x, y, relation)
    )


def thing_in(thing, known):
    word, *parts = thing
    if word == "told":
        return called(thing_in(parts[0], known), thing_in(parts[1], known))
    if word in ("first", "second"):
        return thing_in(parts[0], known)[1 if word == "first" else 2]
    return known[thing]


def is_kept(promise, known, relation):
    """Whether the promise is so, as point C4 tells its words."""
    word, *parts = promise
    if word == "same":
        return thing_in(parts[0], known) == thing_in(parts[1], known)
    if word == "by":
        return (thing_in(parts[1], known), thing_in(parts[2], known)) in relation["pairs"][parts[0]]
    if word == "both":
        return is_kept(parts[0], known, relation) and is_kept(parts[1], known, relation)
    x, y = ("x", parts[0]), ("y", parts[0])
    assert x not in known
    if word == "all":
        pairs = itertools.product(all_of(parts[1], relation["ones"]), all_of(parts[1], relation["twos"]))
        seen = [{**known, x: one, y: two} for one, two in pairs]
        return all(is_kept(parts[3], more, relation) for more in seen if is_kept(parts[2], more, relation))
    one, two = thing_in(parts[1], known), thing_in(parts[2], known)
    if word == "each":
        return len(one) == len(two) and all(is_kept(parts[3], {**known, x: p, y: q}, relation) for p, q in zip(one, two))
    more = {**known, x: one[1], y: two[1]}
    return one[0] == two[0] and is_kept(parts[3 if one[0] == "left" else 4], more, relation)


RELATIONS = (
    {"ones": {"a": [0, 1], "b": ["p"]}, "twos": {"a": [5, 6], "b": ["q", "r"]}, "pairs": {"a": [(0, 5), (1, 5)], "b": [("p", "r")]}},
    {"ones": {"a": [0, 1], "b": ["p"]}, "twos": {"a": [7], "b": ["q", "r"]}, "pairs": {"a": [(0, 7)], "b": [("p", "q"), ("p", "r")]}},
    {"ones": {"a": [0], "b": ["p"]}, "twos": {"a": [7, 8], "b": ["q"]}, "pairs": {"a": [], "b": []}},
)


class TestPromises(unittest.TestCase):
    def test_by_hand(self):
        for kind, promise, words in PROMISES:
            with self.subTest(words):
                self.assertEqual(promise_of(kind), promise)
                self.assertEqual(promise_of(kind=kind), promise)
                self.assertEqual(promise_text(kind), words)
                self.assertEqual(promise_text(kind=kind), words)

    def test_counted_kinds(self):
        for number in range(6000):
            kind = kind_from(number, ALL_BASES)
            if depth_of_kind(kind) <= 6:
                promise = promise_at(kind, *BOTH, itertools.count(1))
                self.assertEqual(promise_of(kind), promise)
                self.assertEqual(promise_text(kind), promise_words(promise))

    def test_numbers_count_from_one_in_the_order_of_the_tuple(self):
        for number in range(0, 6000, 3):
            kind = kind_from(number, ALL_BASES)
            if depth_of_kind(kind) <= 6:
                asked = re.findall(r"'(?:sides|each|all)', (\d+)", repr(promise_of(kind)))
                self.assertEqual([int(one) for one in asked], list(range(1, len(asked) + 1)))

    def test_it_is_kept_exactly_if_both_are_related(self):
        kinds = [kind_from(number, (A, NUM, B, UNIT)) for number in range(60)]
        kinds += [
            ("fun", A, A), ("fun", A, ("pair", A, NUM)), ("fun", ("fun", A, B), A), ("fun", A, ("fun", B, A)), ("fun", ("list", B), A),
            ("fun", ("either", A, B), TRUTH), ("list", ("fun", B, A)), ("pair", ("fun", A, A), ("fun", NUM, NUM)),
            ("either", ("fun", NUM, NUM), ("fun", A, NUM)), ("fun", ("fun", NUM, NUM), NUM), ("fun", ("fun", A, NUM), A),
        ]
        seen = [0, 0]
        for kind in kinds:
            for relation in RELATIONS:
                ones, twos = all_of(kind, relation["ones"]), all_of(kind, relation["twos"])
                for one, two in itertools.product(ones[::len(ones) // 12 + 1], twos[::len(twos) // 12 + 1]):
                    told = is_kept(promise_of(kind), {("one",): one, ("two",): two}, relation)
                    self.assertEqual(told, related(kind, one, two, relation), (kind, one, two))
                    seen[told] += 1
        self.assertGreater(min(seen), 500)

    def test_kinds_up_to_six_deep(self):
        for wrap in (lambda part: ("list", part), lambda part: ("fun", part, A), lambda part: ("fun", A, part),
                     lambda part: ("pair", NUM, part), lambda part: ("either", part, UNIT)):
            for levels in (5, 6):
                kind = chain(wrap, B, levels)
                self.assertEqual(promise_of(kind), promise_at(kind, *BOTH, itertools.count(1)))
                self.assertEqual(promise_text(kind), promise_words(promise_of(kind)))
            for levels in (7, 8, 100, 101, 299):
                kind = chain(wrap, B, levels)
                for ask in (promise_of, promise_text, equation_text):
                    with self.assertRaises(InvalidKind) as caught:
                        ask(kind)
                    self.assertIs(caught.exception.given, kind)

    def test_wide_kinds(self):
        kind = A
        for _ in range(5):
            kind = ("pair", kind, ("list", kind)) if depth_of_kind(kind) < 5 else kind
        self.assertEqual(promise_of(kind), promise_at(kind, *BOTH, itertools.count(1)))
        kind = chain(lambda part: ("fun", part, part), A, 6)
        self.assertEqual(promise_of(kind), promise_at(kind, *BOTH, itertools.count(1)))
        self.assertEqual(promise_text(kind), promise_words(promise_of(kind)))

    def test_a_second_call_tells_the_same(self):
        for kind, promise, words in PROMISES * 2:
            self.assertEqual([promise_of(kind), promise_text(kind)], [promise, words])


class TestEquations(unittest.TestCase):
    def test_by_hand(self):
        for kind, words in EQUATIONS:
            self.assertEqual(equation_text(kind), words)
            self.assertEqual(equation_text(kind=kind), words)

    def test_counted_kinds(self):
        told = 0
        for number in range(6000):
            kind = kind_from(number, ALL_BASES)
            if depth_of_kind(kind) > 6:
                continue
            row = [kind]
            while row[-1][0] == "fun":
                row[-1:] = row[-1][1:]
            if len(row) > 1 and all(is_data_kind(part) for part in row):
                words = ["" if is_closed_kind(part) else "turned " for part in row]
                ones = "".join(f"(x{at})" for at in range(1, len(row)))
                twos = "".join(f"({word}x{at})" for at, word in enumerate(words[:-1], start=1))
                self.assertEqual(equation_text(kind), f"{words[-1]}one{ones} = two{twos}")
                told += 1
            else:
                self.assertRaises(InvalidKind, equation_text, kind)
        self.assertGreater(told, 300)

    def test_other_kinds_have_none(self):
        for kind in NO_EQUATIONS:
            for ask in (lambda: equation_text(kind), lambda: equation_text(kind=kind)):
                with self.assertRaises(InvalidKind) as caught:
                    ask()
                self.assertIs(type(caught.exception), InvalidKind)
                self.assertIs(caught.exception.given, kind)

    def test_up_to_six_deep(self):
        self.assertEqual(equation_text(("fun", chain(lambda part: ("list", part), A, 5), NUM)), "one(x1) = two(turned x1)")
        self.assertRaises(InvalidKind, equation_text, ("fun", chain(lambda part: ("list", part), A, 6), NUM))
        five = chain(lambda part: ("fun", A, part), B, 6)
        self.assertEqual(equation_text(five), "turned one(x1)(x2)(x3)(x4)(x5) = two(" + ")(".join(
            f"turned x{at}" for at in range(1, 6)) + ")")
        self.assertRaises(InvalidKind, equation_text, ("fun", A, five))


class TestWrong(unittest.TestCase):
    def test_what_is_no_kind(self):
        wrong = [None, "num", ["num"], (), ("var", "d"), ("list",), ("list", A, A), ("fun", A), ("name", "x"), 3, True, Unhashable(), ("fun", A, None)]
        for thing in wrong + deep_things():
            for ask in (promise_of, promise_text, equation_text):
                for call in (lambda: ask(thing), lambda: ask(kind=thing)):
                    with self.assertRaises(InvalidKind) as caught:
                        call()
                    self.assertIs(type(caught.exception), InvalidKind)
                    self.assertIs(caught.exception.given, thing)

    def test_whatever_it_is(self):
        for thing in odd_things():
            if type(thing) is tuple and len(thing) > 1 and type(thing[0]) is str:
                continue
            if type(thing) is tuple and thing in (NUM, UNIT):
                continue
            for ask in (promise_of, promise_text, equation_text):
                with self.assertRaises(InvalidKind) as caught:
                    ask(thing)
                self.assertIs(caught.exception.given, thing)

    def test_nothing_passed_is_changed(self):
        thing = ("fun", ["num"], {"a": []})
        kept = copy.deepcopy(thing)
        for ask in (promise_of, promise_text, equation_text):
            self.assertRaises(InvalidKind, ask, thing)
        self.assertEqual(thing, kept)


if __name__ == "__main__":
    unittest.main()

"""Points 4, 5, 6 and A6: kinds, terms and values shown, and read back as the same."""

import copy
import re
import unittest

from bykindalone.errors import InvalidKind, InvalidTerm, InvalidText, InvalidValue
from bykindalone.kinds import TRUTH
from bykindalone.text import read_kind, read_term, read_value, show_kind, show_term, show_value
from grammar import tokens_of
from made import FORMS, atoms, kind_from, term_from, value_from, wrapped
from samples import KIND_SAMPLES, KINDS, TERM_SAMPLES, TERMS, VALUE_SAMPLES, VALUES, spread, with_tokens_changed
from things import A, B, C, NUM, UNIT, Unhashable, chain, deep_things, odd_things

F, X, Y, Z = [("name", name) for name in "fxyz"]
THREE = ("number", 3)
FN, LET, IS = ("fn", "x", A, X), ("let", "x", Y, X), ("is", "<", X, Y)
PLUS, TIMES, MINUS, CALL = ("plus", X, Y), ("times", X, Y), ("minus", X), ("call", X, Y)
CASE = ("case", X, "u", Y, "v", Z)
ALL_BASES = (NUM, UNIT, A, B, C)

SHOWN_KINDS = (
    (A, "a"), (B, "b"), (C, "c"), (UNIT, "unit"), (NUM, "num"), (("list", A), "list a"), (("list", ("list", NUM)), "list list num"),
    (("pair", A, B), "(a, b)"), (("either", A, B), "a | b"), (("fun", A, B), "a -> b"),
    (("fun", ("fun", A, B), C), "(a -> b) -> c"), (("fun", A, ("fun", B, C)), "a -> b -> c"),
    (("either", ("either", A, B), C), "a | b | c"), (("either", A, ("either", B, C)), "a | (b | c)"),
    (("either", ("fun", A, B), C), "(a -> b) | c"), (("either", A, ("fun", B, C)), "a | (b -> c)"),
    (("fun", ("either", A, B), ("either", B, C)), "a | b -> b | c"), (("list", ("fun", A, B)), "list (a -> b)"),
    (("list", ("either", A, B)), "list (a | b)"), (("list", ("pair", A, B)), "list (a, b)"),
    (("pair", ("fun", A, B), ("either", A, B)), "(a -> b, a | b)"), (("pair", ("pair", A, B), ("pair", B, A)), "((a, b), (b, a))"),
    (("either", ("list", A), ("list", B)), "list a | list b"), (("fun", ("list", A), ("list", B)), "list a -> list b"),
    (("fun", ("pair", A, B), ("pair", A, B)), "(a, b) -> (a, b)"), (("either", ("pair", A, B), ("pair", A, B)), "(a, b) | (a, b)"),
    (("pair", ("list", A), UNIT), "(list a, unit)"), (TRUTH, "unit | unit"),
    (("list", ("either", ("fun", A, ("either", B, ("either", C, A))), NUM)), "list ((a -> b | (c | a)) | num)"),
)
SHOWN_TERMS = (
    (X, "x"), (("name", "a"), "a"), (("name", "abcdefgh"), "abcdefgh"), (("unit",), "()"), (("number", 0), "0"), (THREE, "3"),
    (("number", -3), "-3"), (FN, "fn x: a. x"), (("fn", "f", ("fun", A, B), ("fn", "y", ("list", C), F)), "fn f: a -> b. fn y: list c. f"),
    (CALL, "x(y)"), (("call", F, ("unit",)), "f(())"), (("call", F, ("pair", X, Y)), "f((x, y))"), (("call", CALL, Z), "x(y)(z)"),
    (("call", F, CALL), "f(x(y))"), (("call", F, FN), "f(fn x: a. x)"), (LET, "let x = y in x"),
    (("let", "x", LET, LET), "let x = let x = y in x in let x = y in x"), (("let", "x", FN, IS), "let x = fn x: a. x in x < y"),
    (PLUS, "x + y"), (("plus", PLUS, Z), "x + y + z"), (("plus", X, PLUS), "x + (x + y)"), (TIMES, "x * y"),
    (("times", TIMES, Z), "x * y * z"), (("times", X, TIMES), "x * (x * y)"), (("plus", TIMES, TIMES), "x * y + x * y"),
    (("times", PLUS, PLUS), "(x + y) * (x + y)"), (MINUS, "-x"), (("minus", MINUS), "--x"), (("minus", THREE), "-(3)"),
    (("minus", ("number", -3)), "--3"), (("minus", ("number", 0)), "-(0)"), (("minus", ("minus", THREE)), "--(3)"),
    (("minus", ("call", THREE, X)), "-(3(x))"), (("minus", ("call", ("call", THREE, X), Y)), "-(3(x)(y))"),
    (("minus", ("call", ("number", -3), X)), "--3(x)"), (("minus", CALL), "-x(y)"), (("call", MINUS, Y), "(-x)(y)"),
    (("minus", ("call", ("minus", THREE), X)), "-(-(3))(x)"), (("call", ("number", -3), X), "-3(x)"), (("call", THREE, X), "3(x)"),
    (("minus", PLUS), "-(x + y)"), (("minus", TIMES), "-(x * y)"), (("minus", ("plus", THREE, X)), "-(3 + x)"),
    (("minus", ("pair", THREE, X)), "-(3, x)"), (("minus", ("unit",)), "-()"), (("minus", CASE), "-case x {u. y; v. z}"),
    (("plus", MINUS, MINUS), "-x + -x"), (("times", MINUS, ("minus", THREE)), "-x * -(3)"), (("plus", X, ("number", -1)), "x + -1"),
    (("times", X, ("number", -1)), "x * -1"), (("minus", FN), "-(fn x: a. x)"), (("minus", LET), "-(let x = y in x)"),
    (("minus", IS), "-(x < y)"), (IS, "x < y"), (("is", "<=", X, Y), "x <= y"), (("is", "==", X, Y), "x == y"),
    (("is", "<", IS, IS), "(x < y) < (x < y)"), (("is", "==", PLUS, TIMES), "x + y == x * y"), (("is", "<=", FN, LET),
     "(fn x: a. x) <= (let x = y in x)"), (("is", "<", ("minus", THREE), ("number", -3)), "-(3) < -3"),
    (("plus", FN, LET), "(fn x: a. x) + (let x = y in x)"), (("times", IS, IS), "(x < y) * (x < y)"), (("pair", X, Y), "(x, y)"),
    (("pair", FN, LET), "(fn x: a. x, let x = y in x)"), (("pair", IS, ("pair", X, Y)), "(x < y, (x, y))"), (("first", X), "first(x)"),
    (("second", ("pair", X, Y)), "second((x, y))"), (("first", ("second", IS)), "first(second(x < y))"), (("left", X, A), "left(x, a)"),
    (("left", FN, ("fun", A, B)), "left(fn x: a. x, a -> b)"), (("right", A, X), "right(a, x)"),
    (("right", ("either", A, B), LET), "right(a | b, let x = y in x)"), (CASE, "case x {u. y; v. z}"),
    (("case", IS, "u", FN, "v", LET), "case x < y {u. fn x: a. x; v. let x = y in x}"),
    (("case", CASE, "u", CASE, "v", CASE), "case case x {u. y; v. z} {u. case x {u. y; v. z}; v. case x {u. y; v. z}}"),
    (("case", FN, "u", IS, "v", PLUS), "case fn x: a. x {u. x < y; v. x + y}"), (("call", CASE, X), "case x {u. y; v. z}(x)"),
    (("plus", CASE, CASE), "case x {u. y; v. z} + case x {u. y; v. z}"), (("nil", A), "nil(a)"), (("nil", ("fun", A, B)), "nil(a -> b)"),
    (("cons", X, ("nil", ("list", A))), "cons(x, nil(list a))"), (("cons", IS, FN), "cons(x < y, fn x: a. x)"),
    (("fold", F, X, Y), "fold(f, x, y)"), (("fold", FN, LET, IS), "fold(fn x: a. x, let x = y in x, x < y)"),
    (("call", ("fold", F, X, Y), ("nil", A)), "fold(f, x, y)(nil(a))"), (("call", ("nil", A), X), "nil(a)(x)"),
    (("call", FN, X), "(fn x: a. x)(x)"), (("call", LET, X), "(let x = y in x)(x)"), (("call", IS, X), "(x < y)(x)"),
    (("call", PLUS, X), "(x + y)(x)"), (("call", TIMES, X), "(x * y)(x)"), (("call", ("unit",), X), "()(x)"),
    (("call", ("pair", X, Y), Z), "(x, y)(z)"),
)
SHOWN_VALUES = (
    (UNIT, (), "()"), (NUM, 0, "0"), (NUM, -12, "-12"), (NUM, 10 ** 30, "1" + "0" * 30), (("pair", NUM, UNIT), ("pair", -3, ()), "(-3, ())"),
    (("pair", ("pair", NUM, NUM), NUM), ("pair", ("pair", 1, 2), 3), "((1, 2), 3)"),
    (("pair", NUM, ("pair", NUM, NUM)), ("pair", 1, ("pair", 2, 3)), "(1, (2, 3))"), (TRUTH, ("left", ()), "left(())"),
    (TRUTH, ("right", ()), "right(())"), (("either", NUM, ("pair", NUM, NUM)), ("left", 3), "left(3)"),
    (("either", NUM, ("pair", NUM, NUM)), ("right", ("pair", 1, -1)), "right((1, -1))"),
    (("either", TRUTH, TRUTH), ("left", ("right", ())), "left(right(()))"), (("list", NUM), (), "[]"), (("list", NUM), (1,), "[1]"),
    (("list", NUM), (1, -2, 3), "[1, -2, 3]"), (("list", UNIT), ((), ()), "[(), ()]"), (("list", ("list", NUM)), ((), (1, 2), ()), "[[], [1, 2], []]"),
    (("list", ("list", UNIT)), ((), ((),)), "[[], [()]]"), (("pair", ("list", NUM), UNIT), ("pair", (), ()), "([], ())"),
    (("list", TRUTH), (("left", ()), ("right", ())), "[left(()), right(())]"),
)
# How tight each word is in the forms: what may stand without brackets where a form is due that is less tight, or as tight.
LEVELS_OF_TERMS = {"fn": 0, "let": 0, "is": 0, "plus": 1, "times": 2, "minus": 3}
DUE_IN_TERMS = {
    ("plus", 1): 1, ("plus", 2): 2, ("times", 1): 2, ("times", 2): 3, ("is", 2): 1, ("is", 3): 1, ("minus", 1): 3, ("call", 1): 4,
}
LEVELS_OF_KINDS = {"fun": 0, "either": 1}
DUE_IN_KINDS = {("fun", 1): 1, ("either", 1): 1, ("either", 2): 2, ("list", 1): 2}


def kind_in_text(kind, due=0):
    """The text of the kind where a form as tight is due, told apart from the program."""
    word = kind[0]
    parts = [kind_in_text(part, DUE_IN_KINDS.get((word, at), 0)) for at, part in enumerate(kind[1:], start=1) if word != "var"]
    text = {
        "var": lambda: kind[1], "unit": lambda: "unit", "num": lambda: "num", "list": lambda: f"list {parts[0]}",
        "pair": lambda: f"({parts[0]}, {parts[1]})", "either": lambda: f"{parts[0]} | {parts[1]}",
        "fun": lambda: f"{parts[0]} -> {parts[1]}",
    }[word]()
    return f"({text})" if LEVELS_OF_KINDS.get(word, 2) < due else text


def term_in_text(term, due=0):
    """The text of the term where a form as tight is due, told apart from the program."""
    word = term[0]
    parts = [None]
    for at, sort in enumerate(FORMS[word], start=1):
        if sort == "T":
            parts.append(term_in_text(term[at], DUE_IN_TERMS.get((word, at), 0)))
        else:
            parts.append(kind_in_text(term[at]) if sort == "K" else str(term[at]))
    text = {
        "name": "{1}", "number": "{1}", "unit": "()", "fn": "fn {1}: {2}. {3}", "call": "{1}({2})", "let": "let {1} = {2} in {3}",
        "plus": "{1} + {2}", "times": "{1} * {2}", "minus": "-{1}", "is": "{2} {1} {3}", "pair": "({1}, {2})",
        "case": "case {1} {{{2}. {3}; {4}. {5}}}", "nil": "nil({1})", "first": "first({1})", "second": "second({1})",
    }.get(word, word + "(" + ", ".join("{%d}" % at for at in range(1, len(term))) + ")").format(*parts)
    if word == "minus" and parts[1][0] in "0123456789":
        text = f"-({parts[1]})"
    return f"({text})" if LEVELS_OF_TERMS.get(word, 4) < due else text


def without_brackets(text):
    """The texts that come of leaving out one pair of brackets that belong together, each."""
    waiting = []
    for at, sign in enumerate(text):
        if sign == "(":
            waiting.append(at)
        elif sign == ")":
            start = waiting.pop()
            yield text[:start] + text[start + 1:at] + text[at + 1:]


def all_wrapped_twice():
    """Each atom within each word, at each place, within each word, at each place."""
    for atom in atoms():
        for inner, _, _ in wrapped(atom):
            for whole, _, _ in wrapped(inner):
                yield whole


class TestShown(unittest.TestCase):
    def test_kinds(self):
        for kind, text in SHOWN_KINDS:
            self.assertEqual(show_kind(kind), text)
            self.assertEqual(show_kind(kind=kind), text)
            self.assertEqual(read_kind(text), kind)
            self.assertIs(type(show_kind(kind)), str)

    def test_terms(self):
        for term, text in SHOWN_TERMS:
            with self.subTest(text):
                self.assertEqual(show_term(term), text)
                self.assertEqual(show_term(term=term), text)
                self.assertEqual(read_term(text), term)
                self.assertIs(type(show_term(term)), str)

    def test_each_word_is_shown(self):
        self.assertEqual({term[0] for term, _ in SHOWN_TERMS}, set(FORMS))
        self.assertEqual({kind[0] for kind, _ in SHOWN_KINDS}, {"var", "unit", "num", "pair", "either", "list", "fun"})

    def test_values(self):
        for kind, value, text in SHOWN_VALUES:
            with self.subTest(text):
                self.assertEqual(show_value(kind, value), text)
                self.assertEqual(show_value(value=value, kind=kind), text)
                self.assertEqual(read_value(kind, text), value)
                self.assertIs(type(show_value(kind, value)), str)

    def test_long_numbers(self):
        for number in (10 ** 399, -10 ** 399, 10 ** 400 - 1, 1 - 10 ** 400):
            self.assertEqual(show_term(("number", number)), str(number))
            self.assertEqual(show_value(NUM, number), str(number))
            self.assertEqual(read_term(str(number)), ("number", number))
        self.assertEqual(show_term(("minus", ("number", 10 ** 399))), "-(1" + "0" * 399 + ")")

    def test_a_second_call_tells_the_same(self):
        self.assertEqual([show_kind(kind) for kind, _ in SHOWN_KINDS], [show_kind(kind) for kind, _ in SHOWN_KINDS])
        self.assertEqual([show_term(term) for term, _ in SHOWN_TERMS], [show_term(term) for term, _ in SHOWN_TERMS])


class TestBrackets(unittest.TestCase):
    def test_every_pair_of_words_within_one_another(self):
        for whole in all_wrapped_twice():
            text = show_term(whole)
            self.assertEqual(text, term_in_text(whole))
            self.assertEqual(read_term(text), whole, text)

    def test_three_words_within_one_another(self):
        for inner, _, _ in wrapped(THREE):
            for middle, _, _ in wrapped(inner):
                for whole, _, _ in wrapped(middle):
                    text = show_term(whole)
                    self.assertEqual(text, term_in_text(whole))
                    self.assertEqual(read_term(text), whole, text)

    def test_no_brackets_can_be_left_out_of_a_term(self):
        for whole in all_wrapped_twice():
            for text in without_brackets(show_term(whole)):
                try:
                    self.assertNotEqual(read_term(text), whole, text)
                except InvalidText:
                    pass

    def test_every_pair_of_kinds_words_within_one_another(self):
        wraps = [lambda kind, word=word: (word, kind, A) for word in ("pair", "either", "fun")]
        wraps += [lambda kind, word=word: (word, A, kind) for word in ("pair", "either", "fun")] + [lambda kind: ("list", kind)]
        for inner in wraps:
            for middle in wraps:
                for outer in wraps:
                    kind = outer(middle(inner(B)))
                    text = show_kind(kind)
                    self.assertEqual(text, kind_in_text(kind))
                    self.assertEqual(read_kind(text), kind)
                    for changed in without_brackets(text):
                        try:
                            self.assertNotEqual(read_kind(changed), kind, changed)
                        except InvalidText:
                            pass

    def test_kinds_in_terms_stand_without_brackets(self):
        for kind in (("fun", A, B), ("either", A, B), ("list", A), ("pair", A, B)):
            text = show_kind(kind)
            self.assertEqual(show_term(("fn", "x", kind, X)), f"fn x: {text}. x")
            self.assertEqual(show_term(("left", X, kind)), f"left(x, {text})")
            self.assertEqual(show_term(("right", kind, X)), f"right({text}, x)")
            self.assertEqual(show_term(("nil", kind)), f"nil({text})")


class TestBlanks(unittest.TestCase):
    def told(self, text):
        """That blanks stand between the tokens just where they are told of by the tokens beside them."""
        self.assertNotIn("\n", text)
        self.assertNotIn("  ", text)
        for gap in re.finditer(" ", text):
            at = gap.start()
            ahead, behind = tokens_of(text[:at])[0], tokens_of(text[at:])[0]
            last, first = ahead[-1][0], behind[0][0]
            beside = ("->", "|", "+", "*", "<", "<=", "==", "=")
            told = last in beside + (",", ":", ";", ".", "fn", "let", "in", "case", "list") or first in beside + ("in", "{")
            self.assertTrue(told, f"{text!r} at {at}")
        for token, at in tokens_of(text)[0]:
            end = at + len(token)
            if token in ("->", "|", "+", "*", "<", "<=", "==", "=", "in"):
                self.assertEqual(text[at - 1] + text[end], "  ", text)
            if token in (",", ":", ";", ".", "fn", "let", "case", "list"):
                self.assertEqual(text[end], " ", text)
            if token == "{":
                self.assertEqual(text[at - 1], " ", text)

    def test_terms(self):
        for term, _ in SHOWN_TERMS:
            self.told(show_term(term))
        for number in range(0, 20000, 7):
            self.told(show_term(term_from(number)))

    def test_kinds_and_values(self):
        for number in range(2000):
            self.told(show_kind(kind_from(number, ALL_BASES)))
        for kind, value, _ in SHOWN_VALUES:
            self.told(show_value(kind, value))


class TestBack(unittest.TestCase):
    """For all kinds, values and terms: shown and read back the same, so unlike ones by unlike texts."""

    def test_counted_kinds(self):
        texts = {}
        for number in range(12000):
            kind = kind_from(number, ALL_BASES)
            text = show_kind(kind)
            self.assertEqual(read_kind(text), kind)
            self.assertEqual(texts.setdefault(text, kind), kind)
            self.assertEqual(text, kind_in_text(kind))
        self.assertEqual(len(texts), 12000)

    def test_counted_terms(self):
        texts = {}
        for number in range(12000):
            term = term_from(number)
            text = show_term(term)
            self.assertEqual(read_term(text), term, text)
            self.assertEqual(texts.setdefault(text, term), term)
            self.assertEqual(text, term_in_text(term))
        self.assertEqual(len(texts), 12000)

    def test_counted_terms_that_are_larger(self):
        texts = set()
        for number in range(1500):
            term = term_from(10 ** 8 + number * 999983)
            text = show_term(term)
            texts.add(text)
            self.assertEqual(read_term(text), term, text)
            self.assertEqual(text, term_in_text(term))
        self.assertEqual(len(texts), 1500)

    def test_counted_values(self):
        for at in range(300):
            kind = kind_from(at, (NUM, UNIT), ("list", "pair", "either"))
            told = {}
            for number in range(40):
                value = value_from(kind, number)
                text = show_value(kind, value)
                self.assertEqual(read_value(kind, text), value)
                self.assertEqual(read_value(kind, spread(text, " # \n")), value)
                self.assertEqual(told.setdefault(text, value), value)
            self.assertEqual(len(told), len({repr(value_from(kind, number)) for number in range(40)}))

    def test_what_is_read_shown_and_read_again_is_the_same(self):
        for text in KINDS:
            self.assertEqual(read_kind(show_kind(read_kind(text))), read_kind(text))
        for text, term in TERMS.items():
            if term is not None:
                self.assertEqual(read_term(show_term(read_term(text))), term)
        for kind, text, value in VALUES:
            self.assertEqual(read_value(kind, show_value(kind, read_value(kind, text))), value)

    def test_changed_texts_that_are_read(self):
        samples = [(read_kind, show_kind, text) for text in KIND_SAMPLES]
        samples += [(read_term, show_term, text) for text in TERM_SAMPLES]
        for kind, text in VALUE_SAMPLES:
            read, show = (lambda text, kind=kind: read_value(kind, text)), (lambda value, kind=kind: show_value(kind, value))
            samples.append((read, show, text))
        for read, show, text in samples:
            for changed in with_tokens_changed(text):
                try:
                    thing = read(changed)
                except InvalidText:
                    continue
                self.assertEqual(read(show(thing)), thing)

    def test_names_like_kinds_and_parts_of_kinds(self):
        for name in ("a", "b", "c", "pair", "either", "fun", "var", "name", "call", "true"):
            self.assertEqual(show_term(("name", name)), name)
            self.assertEqual(read_term(name), ("name", name))
            self.assertEqual(read_term(show_term(("fn", name, A, ("name", name)))), ("fn", name, A, ("name", name)))


class TestDeep(unittest.TestCase):
    def test_terms_a_hundred_deep(self):
        for place in range(len(wrapped(X))):
            for last in atoms():
                term = chain(lambda part: wrapped(part)[place][0], last, 100)
                self.assertEqual(read_term(show_term(term)), term)
                with self.assertRaises(InvalidTerm):
                    show_term(wrapped(term)[place][0])

    def test_kinds_a_hundred_deep(self):
        for wrap in (lambda part: ("list", part), lambda part: ("pair", part, A), lambda part: ("pair", A, part),
                     lambda part: ("either", part, A), lambda part: ("either", A, part), lambda part: ("fun", part, A),
                     lambda part: ("fun", A, part)):
            kind = chain(wrap, NUM, 100)
            self.assertEqual(read_kind(show_kind(kind)), kind)
            self.assertEqual(read_term(show_term(("nil", kind))), ("nil", kind))
            self.assertRaises(InvalidKind, show_kind, wrap(kind))

    def test_values_of_kinds_a_hundred_deep(self):
        kind = chain(lambda part: ("list", part), NUM, 100)
        value = chain(lambda part: (part,), 7, 100)
        self.assertEqual(show_value(kind, value), "[" * 99 + "7" + "]" * 99)
        self.assertEqual(read_value(kind, show_value(kind, value)), value)
        self.assertRaises(InvalidKind, show_value, ("list", kind), ())
        kind = chain(lambda part: ("either", UNIT, part), NUM, 100)
        value = chain(lambda part: ("right", part), -7, 100)
        self.assertEqual(show_value(kind, value), "right(" * 99 + "-7" + ")" * 99)
        kind = chain(lambda part: ("pair", part, UNIT), NUM, 100)
        value = chain(lambda part: ("pair", part, ()), 7, 100)
        self.assertEqual(show_value(kind, value), "(" * 99 + "7" + ", ())" * 99)

    def test_long_values(self):
        self.assertEqual(show_value(("list", NUM), (1,) * 5000), "[" + "1, " * 4999 + "1]")


class TestWrong(unittest.TestCase):
    def caught(self, error, ask, *rest, **more):
        with self.assertRaises(error) as caught:
            ask(*rest, **more)
        self.assertIs(type(caught.exception), error)
        return caught.exception

    def test_no_kinds(self):
        for thing in odd_things() + [("var", "d"), ["num"], ("list", NUM, NUM), chain(lambda part: ("list", part), NUM, 101), X, 3, "a"]:
            try:
                show_kind(thing)
            except InvalidKind as error:
                self.assertIs(error.given, thing)
                self.assertIs(self.caught(InvalidKind, show_kind, kind=thing).given, thing)
            else:
                self.assertIn(thing[0], ("num", "unit", "list", "pair", "either", "fun"))

    def test_no_terms(self):
        for thing, place in (
            (None, ()), ("x", ()), (["name", "x"], ()), (("name", "fn"), (1,)), (("plus", X, ("number", True)), (2, 1)),
            (("fn", "x", ("var", "d"), None), (2,)), (("nil", ["num"]), (1,)), (("is", "=", None, None), (1,)), (NUM, ()), (Unhashable(), ()),
        ):
            self.assertEqual(self.caught(InvalidTerm, show_term, thing).place, place)
            self.assertEqual(self.caught(InvalidTerm, show_term, term=thing).place, place)
        for thing in deep_things():
            self.caught(InvalidTerm, show_term, thing)

    def test_no_values(self):
        for kind, value in (
            (UNIT, None), (UNIT, 0), (UNIT, []), (NUM, True), (NUM, "3"), (NUM, ()), (("list", NUM), [1]), (("list", NUM), (1, True)),
            (("pair", NUM, NUM), (1, 2)), (TRUTH, True), (TRUTH, ("left", 0)), (("list", UNIT), ((), 0)), (NUM, Unhashable()),
        ):
            self.assertIs(self.caught(InvalidValue, show_value, kind, value).given, value)
            self.assertIs(self.caught(InvalidValue, show_value, value=value, kind=kind).given, value)
        for thing in odd_things():
            if thing != () or type(thing) is not tuple:
                self.assertIs(self.caught(InvalidValue, show_value, UNIT, thing).given, thing)

    def test_the_kind_of_a_value_is_told_first(self):
        for kind in (A, ("list", A), ("fun", NUM, NUM), ("pair", ("fun", UNIT, UNIT), NUM), None, "num", ["num"], ("num", NUM)):
            for value in ((), 3, None, ["x"], Unhashable()):
                self.assertIs(self.caught(InvalidKind, show_value, kind, value).given, kind)
                self.assertIs(self.caught(InvalidKind, show_value, value=value, kind=kind).given, kind)

    def test_nothing_passed_is_changed(self):
        thing = ("pair", ["name", {"x": [1]}], [])
        kept = copy.deepcopy(thing)
        self.caught(InvalidKind, show_kind, thing)
        self.caught(InvalidTerm, show_term, thing)
        self.caught(InvalidValue, show_value, NUM, thing)
        self.assertEqual(thing, kept)


if __name__ == "__main__":
    unittest.main()

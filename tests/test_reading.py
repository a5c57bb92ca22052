"""Points 4, 5, 6, A4 and A5: tokens, and reading kinds, terms and values; what is refused, and where."""

import unittest

from bykindalone.errors import InvalidKind, InvalidText, KindError
from bykindalone.kinds import TRUTH
from bykindalone.text import read_kind, read_term, read_value
from grammar import Forms, tokens_of
from samples import KIND_SAMPLES, KINDS, TERM_SAMPLES, TERMS, TOKENS, VALUE_SAMPLES, VALUES
from samples import spread, with_signs_changed, with_tokens_changed
from things import A, B, C, NUM, UNIT, Unhashable, chain, odd_things, odd_words

X, Y, Z = [("name", name) for name in "xyz"]


class Case(unittest.TestCase):
    def refused(self, read, text, line, column):
        """That the text is refused there, by position and by name."""
        for ask in (lambda: read(text), lambda: read(text=text)):
            with self.assertRaises(InvalidText) as caught:
                ask()
            self.assertEqual((caught.exception.line, caught.exception.column), (line, column), repr(text)[:200])
            self.assertIs(type(caught.exception), InvalidText)


def of_kind(kind):
    """The reader of values of the kind, as a function of the text alone."""
    return lambda text: read_value(kind, text)


def pressed(text):
    """The text without anything between its tokens but where one would run into the next one."""
    tokens, bad = tokens_of(text)
    whole = ""
    for told, _ in tokens:
        apart = [one for one, _ in tokens_of(whole + " " + told)[0]]
        if [one for one, _ in tokens_of(whole + told)[0]] != apart:
            whole += " "
        whole += told
    return whole


class TestRead(Case):
    def test_kinds(self):
        for text, kind in KINDS.items():
            self.assertEqual(read_kind(text), kind, text)
            self.assertEqual(read_kind(text=text), kind, text)

    def test_terms(self):
        for text, term in TERMS.items():
            with self.subTest(text):
                if term is None:
                    self.assertRaises(InvalidText, read_term, text)
                else:
                    self.assertEqual(read_term(text), term)
                    self.assertEqual(read_term(text=text), term)

    def test_values(self):
        for kind, text, value in VALUES:
            with self.subTest(text):
                self.assertEqual(read_value(kind, text), value)
                self.assertEqual(read_value(text=text, kind=kind), value)

    def test_each_behind_another_one_and_ahead_of_one(self):
        for text, kind in KINDS.items():
            self.assertEqual(read_kind(f"(num, {text})"), ("pair", NUM, kind))
            self.assertEqual(read_kind(f"({text}, num)"), ("pair", kind, NUM))
            self.assertEqual(read_kind(f"unit -> num | ({text})"), ("fun", UNIT, ("either", NUM, kind)))
            self.assertEqual(read_kind(f"({text}) -> list ({text})"), ("fun", kind, ("list", kind)))
        for text, term in TERMS.items():
            if term is not None:
                self.assertEqual(read_term(f"x(({text}))"), ("call", X, term))
                self.assertEqual(read_term(f"(-7, {text})"), ("pair", ("number", -7), term))
                self.assertEqual(read_term(f"({text}, y)"), ("pair", term, Y))
                self.assertEqual(read_term(f"x + ({text}) * y"), ("plus", X, ("times", term, Y)))
                self.assertEqual(read_term(f"cons(x, fold(y, {text}, {text}))"), ("cons", X, ("fold", Y, term, term)))
        for kind, text, value in VALUES:
            self.assertEqual(read_value(("pair", NUM, kind), f"(7, {text})"), ("pair", 7, value))
            self.assertEqual(read_value(("pair", kind, NUM), f"({text}, 7)"), ("pair", value, 7))
            self.assertEqual(read_value(("list", kind), f"[{text}, {text}, {text}]"), (value,) * 3)
            self.assertEqual(read_value(("either", NUM, ("list", kind)), f"right([{text}, {text}])"), ("right", (value,) * 2))

    def test_all_is_made_of_tuples_numbers_and_texts(self):
        made = [read_kind(text) for text in KINDS] + [read_value(kind, text) for kind, text, _ in VALUES]
        made += [read_term(text) for text, term in TERMS.items() if term is not None]
        while made:
            thing = made.pop()
            self.assertIn(type(thing), (tuple, int, str))
            if type(thing) is tuple:
                made.extend(thing)

    def test_gaps_ahead_between_and_behind(self):
        gaps = (" ", "   ", "\n", " \n ", "\n\n\n", "#\n", "# (x) -> \t\r A \u00e9 \x00 ## let\n", " # one\n# two\n  ", "#" * 50 + "\n")
        for gap in gaps:
            for text, kind in KINDS.items():
                self.assertEqual(read_kind(spread(text, gap)), kind)
            for text, term in TERMS.items():
                if term is not None and "-3" not in text and "-1" not in text:
                    self.assertEqual(read_term(spread(text, gap)), term)
            for kind, text, value in VALUES:
                self.assertEqual(read_value(kind, spread(text, gap)), value)

    def test_a_remark_up_to_the_end_of_the_text(self):
        for behind in ("#", "# x", " # -> (", "\n#", "\n# \t\r A", "# x\n", "#\n#", "##", " ", "\n", " \n \n"):
            self.assertEqual(read_kind("list a" + behind), ("list", A))
            self.assertEqual(read_term("x + y" + behind), ("plus", X, Y))
            self.assertEqual(read_value(("list", NUM), "[1]" + behind), (1,))

    def test_nothing_between_tokens(self):
        for text, kind in KINDS.items():
            self.assertEqual(read_kind(pressed(text)), kind)
        for text, term in TERMS.items():
            if term is not None:
                self.assertEqual(read_term(pressed(text)), term)
        for kind, text, value in VALUES:
            self.assertEqual(read_value(kind, pressed(text)), value)
        self.assertEqual(read_kind("a|b->list(c,num)"), ("fun", ("either", A, B), ("list", ("pair", C, NUM))))
        self.assertEqual(read_term("let x=y in z"), ("let", "x", Y, Z))
        self.refused(read_term, "let x=1in z", 1, 8)
        self.assertEqual(read_term("case(x){y.y;z.z}"), ("case", X, "y", Y, "z", Z))
        self.assertEqual(read_term("fn x:a.x"), ("fn", "x", A, X))

    def test_a_word_and_what_is_behind_it(self):
        self.assertEqual(read_term("fnx"), ("name", "fnx"))
        self.assertEqual(read_term("fn x:a.fnx"), ("fn", "x", A, ("name", "fnx")))
        self.refused(read_term, "fnx: a. x", 1, 4)
        self.refused(read_kind, "lista", 1, 1)
        self.refused(read_kind, "a b", 1, 3)
        self.refused(read_kind, "ab", 1, 1)

    def test_a_second_call_tells_the_same(self):
        for text in KINDS:
            self.assertEqual(read_kind(text), read_kind(text))
        self.assertEqual([read_term(text) for text in ("x", "-3", "x")], [X, ("number", -3), X])


class TestTokens(Case):
    def test_names_up_to_eight_signs(self):
        for many in range(1, 9):
            self.assertEqual(read_term("x" * many), ("name", "x" * many))
            self.assertEqual(read_term("x" + "7" * (many - 1)), ("name", "x" + "7" * (many - 1)))
        for name in ("abcdefghi", "abcdefghijkl", "a12345678", "a1234567x", "seconds12", "firstfirst"):
            self.refused(read_term, name, 1, 9)
            self.refused(read_term, "(" + name + ")", 1, 10)
            self.refused(read_term, "(\n" + name + ")", 2, 9)
            self.refused(read_kind, name, 1, 9)
            self.refused(read_term, "fn " + name + ": a. x", 1, 12)

    def test_the_ninth_sign_goes_ahead_of_what_is_wrong_with_the_name(self):
        # What the ninth sign breaks off is no token, so nothing is wrong ahead of it.
        self.refused(read_kind, "a abcdefghi", 1, 11)
        self.refused(read_kind, "a abcdefgh", 1, 3)
        self.refused(read_term, "x abcdefghi", 1, 11)
        self.refused(of_kind(NUM), "abcdefghi", 1, 9)
        self.refused(read_term, "x y abcdefghi", 1, 3)

    def test_numbers_of_up_to_four_hundred_figures(self):
        for sign in ("", "-"):
            for many in (1, 2, 399, 400):
                self.assertEqual(read_term(sign + "7" * many), ("number", int(sign + "7" * many)))
                self.assertEqual(read_value(NUM, sign + "7" * many), int(sign + "7" * many))
                self.assertEqual(read_value(NUM, sign + "1" + "0" * (many - 1)), int(sign + "1" + "0" * (many - 1)))
            for many in (401, 402, 500, 5000):
                column = len(sign) + 401
                self.refused(read_term, sign + "7" * many, 1, column)
                self.refused(of_kind(NUM), sign + "9" + "0" * (many - 1), 1, column)
                self.refused(read_term, "(x,\n" + sign + "7" * many, 2, column)
                self.refused(read_term, sign + "7" * many + "x", 1, column)

    def test_the_four_hundred_and_first_figure_goes_ahead_of_what_is_wrong_with_the_number(self):
        self.refused(read_kind, "a " + "7" * 400, 1, 3)
        self.refused(read_kind, "a " + "7" * 401, 1, 403)
        self.refused(read_kind, "7" * 401, 1, 401)

    def test_a_letter_behind_four_hundred_figures(self):
        self.refused(read_term, "7" * 400 + "x", 1, 401)
        self.refused(read_term, "-" + "7" * 400 + "x", 1, 402)

    def test_figures_behind_a_first_nought(self):
        self.assertEqual(read_term("0"), ("number", 0))
        self.assertEqual(read_term("(0, 0)"), ("pair", ("number", 0), ("number", 0)))
        for text, column in (("00", 2), ("01", 2), ("007", 2), ("0" * 401, 2), ("01x", 2), ("(00", 3), ("x + 09", 6)):
            self.refused(read_term, text, 1, column)
        self.refused(of_kind(NUM), "00", 1, 2)
        self.refused(of_kind(("list", NUM)), "[1, 00]", 1, 6)
        self.refused(read_kind, "00", 1, 2)
        self.assertEqual(read_term("100"), ("number", 100))

    def test_a_nought_behind_a_minus(self):
        for text, column in (("-0", 2), ("-01", 2), ("-00", 2), ("-0x", 2), ("(-0)", 3), ("--0", 3), ("x + -0", 6), ("x <-0", 5)):
            self.refused(read_term, text, 1, column)
        self.refused(of_kind(NUM), "-0", 1, 2)
        self.refused(read_kind, "-0", 1, 2)
        self.assertEqual(read_term("- 0"), ("minus", ("number", 0)))
        self.assertEqual(read_term("-(0)"), ("minus", ("number", 0)))
        self.assertEqual(read_term("-10"), ("number", -10))

    def test_a_letter_behind_a_number(self):
        for text, column in (("3x", 2), ("0x", 2), ("-3x", 3), ("12in", 3), ("(1, 2b)", 6), ("3xyzxyzxyz", 2)):
            self.refused(read_term, text, 1, column)
        self.refused(of_kind(NUM), "3x", 1, 2)
        self.refused(read_kind, "3x", 1, 2)
        self.refused(read_kind, "3 x", 1, 1)
        self.refused(read_term, "3 x", 1, 3)
        self.refused(read_term, "3\nx", 2, 1)

    def test_a_minus_directly_ahead_of_a_figure_belongs_to_the_number(self):
        self.refused(read_term, "x-1", 1, 2)
        self.refused(read_term, "x -1", 1, 3)
        self.refused(read_term, "x - 1", 1, 3)
        self.refused(read_term, "3-1", 1, 2)
        self.refused(read_term, "x(1)-1", 1, 5)
        self.refused(of_kind(NUM), "- 3", 1, 1)
        self.refused(of_kind(NUM), "--3", 1, 1)
        self.refused(of_kind(NUM), "-", 1, 1)
        self.refused(of_kind(NUM), "-x", 1, 1)
        self.refused(read_term, "-", 1, 2)
        self.refused(read_term, "- ", 1, 3)

    def test_the_longest_token_is_taken(self):
        self.assertEqual(read_term("x<=y"), ("is", "<=", X, Y))
        self.refused(read_term, "x< =y", 1, 4)
        self.refused(read_term, "x<==y", 1, 4)
        self.refused(read_term, "x===y", 1, 4)
        self.refused(read_term, "x= =y", 1, 2)
        self.refused(read_term, "x<<y", 1, 3)
        self.refused(read_kind, "a- >b", 1, 2)
        self.refused(read_kind, "a-->b", 1, 2)
        self.refused(read_kind, "a->>b", 1, 4)
        self.refused(read_term, "let x == y in x", 1, 7)
        self.refused(read_term, "let x =-> y in x", 1, 8)
        self.refused(read_term, "x->y", 1, 2)

    def test_bad_signs(self):
        for code in list(range(0, 400)) + [0x3b1, 0x430, 0x660, 0xff11, 0xff41, 0x2028, 0x2029, 0x10400, 0xd800, 0xfeff]:
            sign = chr(code)
            if sign in "abcdefghijklmnopqrstuvwxyz0123456789()[]{},.:;|+*-<= \n#":
                continue
            with self.subTest(code=code):
                self.refused(read_kind, sign, 1, 1)
                self.refused(read_kind, "a" + sign, 1, 2)
                self.refused(read_kind, "a ->\n" + sign + "b", 2, 1)
                self.refused(read_term, "x +" + sign + "y", 1, 4)
                self.refused(read_term, "x" + sign + "y", 1, 2)
                self.refused(read_term, "3" + sign, 1, 2)
                self.refused(read_term, "(x" + sign, 1, 3)
                self.refused(of_kind(("list", NUM)), "[1," + sign + "2]", 1, 4)
                self.refused(of_kind(UNIT), "()" + sign, 1, 3)
                self.assertEqual(read_kind("a #" + sign + "\n -> b"), ("fun", A, B))
                self.assertEqual(read_term("#" + sign + "\nx#" + sign), X)

    def test_what_stands_ahead_of_a_sign_of_no_token_is_whole(self):
        self.refused(read_kind, "x$", 1, 1)
        self.refused(read_term, "x 3$", 1, 3)
        self.refused(read_term, "x y\t", 1, 3)
        self.refused(read_term, "fn fn\t", 1, 4)
        self.refused(of_kind(NUM), "x\t", 1, 1)
        self.refused(of_kind(NUM), "3\t", 1, 2)

    def test_a_bad_sign_behind_what_is_wrong_is_not_met(self):
        self.refused(read_kind, "a b \t", 1, 3)
        self.refused(read_term, ") abcdefghi", 1, 1)
        self.refused(of_kind(NUM), "[ 00", 1, 1)


class TestPlaces(Case):
    def test_ends_of_texts_by_hand(self):
        for text, line, column in (
            ("", 1, 1), (" ", 1, 2), ("\n", 2, 1), ("\n\n", 3, 1), ("  \n  ", 2, 3), ("#", 1, 2), ("# x", 1, 4), ("# x\n", 2, 1),
            ("#\n#", 2, 2), ("(", 1, 2), ("(\n", 2, 1), ("( # x", 1, 6), ("(\n# x", 2, 4), ("(\n# x\n ", 3, 2),
        ):
            self.refused(read_kind, text, line, column)
            self.refused(read_term, text, line, column)
            self.refused(of_kind(UNIT), text, line, column)
            self.refused(of_kind(("pair", NUM, NUM)), text, line, column)

    def test_kinds_by_hand(self):
        for text, line, column in (
            ("x", 1, 1), ("d", 1, 1), ("A", 1, 1), ("1", 1, 1), ("list", 1, 5), ("list ", 1, 6), ("list\n", 2, 1), ("list d", 1, 6),
            ("a ->", 1, 5), ("-> a", 1, 1), ("a -> ->", 1, 6), ("a |", 1, 4), ("| a", 1, 1), ("a | | b", 1, 5), ("a | -> b", 1, 5),
            ("a b", 1, 3), ("a\nb", 2, 1), ("a num", 1, 3), ("list list", 1, 10), ("list | a", 1, 6), ("()", 1, 2), ("(a", 1, 3),
            ("(a,", 1, 4), ("(a,)", 1, 4), ("(,a)", 1, 2), ("(a b)", 1, 4), ("(a, b", 1, 6), ("(a, b, c)", 1, 6), ("a)", 1, 2),
            ("(a))", 1, 4), ("[a]", 1, 1), ("a, b", 1, 2), ("pair a b", 1, 1), ("either a b", 1, 1), ("list(a, b", 1, 10),
            ("unit num", 1, 6), ("fn", 1, 1), ("left", 1, 1), ("a + b", 1, 3), ("a - b", 1, 3), ("a.", 1, 2), ("a # b\nc", 2, 1),
            ("(a\n->\n", 3, 1), ("(a\n->\n)", 3, 1), ("(a ->\n  list x)", 2, 8),
        ):
            self.refused(read_kind, text, line, column)

    def test_terms_by_hand(self):
        for text, line, column in (
            ("fn", 1, 3), ("fn 1", 1, 4), ("fn x", 1, 5), ("fn x a", 1, 6), ("fn x:", 1, 6), ("fn x: d. x", 1, 7), ("fn x: a", 1, 8),
            ("fn x: a x", 1, 9), ("fn x: a.", 1, 9), ("fn x: a. )", 1, 10), ("fn let: a. x", 1, 4), ("fn (x): a. x", 1, 4),
            ("fn x: list. x", 1, 11), ("let", 1, 4), ("let in", 1, 5), ("let x", 1, 6), ("let x 1", 1, 7), ("let x = in y", 1, 9),
            ("let x = 1", 1, 10), ("let x = 1 in", 1, 13), ("let x = 1 x", 1, 11), ("let x = 1 in in", 1, 14), ("in", 1, 1),
            ("unit", 1, 1), ("num", 1, 1), ("list", 1, 1), ("list a", 1, 1), ("first", 1, 6), ("first x", 1, 7), ("first()", 1, 7),
            ("first(x", 1, 8), ("first(x, y)", 1, 8), ("second(x", 1, 9), ("left(x)", 1, 7), ("left(x, )", 1, 9), ("left(x, y)", 1, 9),
            ("left(a, x)", 1, 9), ("right(x, a)", 1, 7), ("right(a)", 1, 8), ("right(a, )", 1, 10), ("left(x, a", 1, 10),
            ("case", 1, 5), ("case x", 1, 7), ("case x y", 1, 8), ("case x {", 1, 9), ("case x {}", 1, 9), ("case x {y", 1, 10),
            ("case x {y: y; z. z}", 1, 10), ("case x {y. }", 1, 12), ("case x {y. y}", 1, 13), ("case x {y. y;}", 1, 14),
            ("case x {y. y; z. z", 1, 19), ("case x {y. y; z. z;}", 1, 19), ("case x {y. y, z. z}", 1, 13), ("case {y. y; z. z}", 1, 6),
            ("case x {1. y; z. z}", 1, 9), ("case x {y. y; fn. z}", 1, 15), ("nil", 1, 4), ("nil()", 1, 5), ("nil(x)", 1, 5),
            ("nil a", 1, 5), ("nil(a", 1, 6), ("nil(a, b)", 1, 6), ("cons", 1, 5), ("cons(x)", 1, 7), ("cons(x,", 1, 8),
            ("cons(x, y", 1, 10), ("cons(x, y, z)", 1, 10), ("fold(x, y)", 1, 10), ("fold(x, y, z", 1, 13), ("fold(x, y, z, p)", 1, 13),
            ("fold()", 1, 6), ("f(", 1, 3), ("f()", 1, 3), ("f(x", 1, 4), ("f(x, y)", 1, 4), ("f(x))", 1, 5), ("f x", 1, 3),
            ("(", 1, 2), (")", 1, 1), ("(x", 1, 3), ("(x,", 1, 4), ("(x,)", 1, 4), ("(x, y", 1, 6), ("(x, y, z)", 1, 6), ("(,x)", 1, 2),
            ("x +", 1, 4), ("+ x", 1, 1), ("x + + y", 1, 5), ("x *", 1, 4), ("* x", 1, 1), ("x * * y", 1, 5), ("x + * y", 1, 5),
            ("x y", 1, 3), ("x 1", 1, 3), ("1 x", 1, 3), ("1 2", 1, 3), ("x < ", 1, 5), ("< x", 1, 1), ("x < y < z", 1, 7),
            ("x < y == z", 1, 7), ("x <= y <= z", 1, 8), ("x = y", 1, 3), ("x > y", 1, 3), ("x + fn y: a. y", 1, 5),
            ("x * let y = z in y", 1, 5), ("x < fn y: a. y", 1, 5), ("- fn y: a. y", 1, 3), ("-let x = y in x", 1, 2),
            ("x - y", 1, 3), ("[x]", 1, 1), ("{x}", 1, 1), ("x | y", 1, 3), ("x -> y", 1, 3), ("x; y", 1, 2), ("x.y", 1, 2), ("x: a", 1, 2),
            ("()()", 1, 4), ("x # y\n)", 2, 1), ("fn x: a.\n\n  x )", 3, 5), ("let x = 1 # in\n\ny", 3, 1), ("(fn x: a. x)(", 1, 14),
        ):
            self.refused(read_term, text, line, column)

    def test_values_by_hand(self):
        pair, either, row = ("pair", NUM, UNIT), ("either", NUM, UNIT), ("list", NUM)
        for kind, text, line, column in (
            (UNIT, "(", 1, 2), (UNIT, "())", 1, 3), (UNIT, "(())", 1, 2), (UNIT, "[]", 1, 1), (UNIT, "1", 1, 1), (UNIT, "unit", 1, 1),
            (NUM, "()", 1, 1), (NUM, "(1)", 1, 1), (NUM, "1 2", 1, 3), (NUM, "x", 1, 1), (NUM, "1 +", 1, 3), (NUM, "", 1, 1),
            (pair, "(1)", 1, 3), (pair, "(1,)", 1, 4), (pair, "(1, ()", 1, 7), (pair, "(1, 2)", 1, 5), (pair, "((), 1)", 1, 2),
            (pair, "(1, (), ())", 1, 7), (pair, "1, ()", 1, 1), (pair, "()", 1, 2), (pair, "[1, ()]", 1, 1), (pair, "pair(1, ())", 1, 1),
            (either, "left", 1, 5), (either, "left 1", 1, 6), (either, "left()", 1, 6), (either, "left(())", 1, 6),
            (either, "left(1", 1, 7), (either, "left(1))", 1, 8), (either, "right(1)", 1, 7), (either, "right", 1, 6),
            (either, "1", 1, 1), (either, "first(1)", 1, 1), (either, "(left(1))", 1, 1), (either, "left((1))", 1, 6),
            (either, "left(1, num)", 1, 7), (row, "[", 1, 2), (row, "[1", 1, 3), (row, "[1,", 1, 4), (row, "[1,]", 1, 4), (row, "[,]", 1, 2),
            (row, "[1 2]", 1, 4), (row, "[1, ()]", 1, 5), (row, "[1]]", 1, 4), (row, "]", 1, 1), (row, "()", 1, 1), (row, "1", 1, 1),
            (row, "[[1]]", 1, 2), (row, "[1;2]", 1, 3), (row, "nil(num)", 1, 1), (row, "[1]\n[2]", 2, 1), (row, "[1, # 2]\n", 2, 1),
            (("list", row), "[[1], 2]", 1, 7), (("list", row), "[[1], [2]", 1, 10), (("list", row), "[[1] [2]]", 1, 6),
            (("list", UNIT), "[()()]", 1, 4), (TRUTH, "left()", 1, 6), (TRUTH, "left(()", 1, 8), (("either", row, row), "left([]", 1, 8),
        ):
            with self.subTest(text):
                self.refused(of_kind(kind), text, line, column)


class TestChanged(Case):
    """Each change of a text is refused where the forms, looked through token by token, say so, or is read."""

    def go_through(self, read, forms, text, changes):
        for changed in changes(text):
            told = forms.refused_at(changed)
            try:
                read(changed)
                found = None
            except InvalidText as error:
                found = (error.line, error.column)
            if found != told:
                self.fail(f"{changed!r}: {found}, not {told}")

    def test_tokens_of_kinds(self):
        forms = Forms("KIND")
        for text in KIND_SAMPLES:
            self.assertIsNone(forms.refused_at(text))
            self.go_through(read_kind, forms, text, with_tokens_changed)

    def test_signs_of_kinds(self):
        forms = Forms("KIND")
        for text in KIND_SAMPLES:
            self.go_through(read_kind, forms, text, with_signs_changed)

    def test_tokens_of_terms(self):
        forms = Forms("TERM")
        for text in TERM_SAMPLES:
            self.assertIsNone(forms.refused_at(text), text)
            self.go_through(read_term, forms, text, with_tokens_changed)

    def test_signs_of_terms(self):
        forms = Forms("TERM")
        for text in TERM_SAMPLES:
            self.go_through(read_term, forms, text, with_signs_changed)

    def test_tokens_of_values(self):
        for kind, text in VALUE_SAMPLES:
            forms = Forms("VALUE", kind)
            self.assertIsNone(forms.refused_at(text), text)
            self.go_through(of_kind(kind), forms, text, with_tokens_changed)

    def test_signs_of_values(self):
        for kind, text in VALUE_SAMPLES:
            self.go_through(of_kind(kind), Forms("VALUE", kind), text, with_signs_changed)

    def test_rows_of_two_and_three_tokens(self):
        rows = [one + " " + two for one in TOKENS for two in TOKENS]
        rows += [one + " " + two + " " + three for one in ("x", "(", "-", "fn") for two in TOKENS for three in TOKENS]
        for read, forms in ((read_kind, Forms("KIND")), (read_term, Forms("TERM")), (of_kind(TRUTH), Forms("VALUE", TRUTH))):
            self.go_through(read, forms, "", lambda _: rows)


class TestWrong(Case):
    def test_what_is_no_text(self):
        for thing in odd_things() + [Unhashable(), ["a"], ("a",), b"a", 7]:
            if not isinstance(thing, str):
                self.refused(read_kind, thing, None, None)
                self.refused(read_term, thing, None, None)
                self.refused(of_kind(NUM), thing, None, None)

    def test_odd_texts(self):
        forms = (Forms("KIND"), Forms("TERM"), Forms("VALUE", NUM))
        for thing in odd_words():
            if isinstance(thing, str):
                for read, told in zip((read_kind, read_term, of_kind(NUM)), [form.refused_at(thing) for form in forms]):
                    if told is not None:
                        self.refused(read, thing, *told)

    def test_kinds_of_values_that_are_none_or_not_closed_or_not_of_data(self):
        for kind in (A, ("list", B), ("fun", NUM, NUM), ("list", ("fun", UNIT, UNIT)), ("fun", A, A), None, "num", ["num"], (), NUM[0]):
            for text in ("[]", "0", "", None, 3, ["x"]):
                for ask in (lambda: read_value(kind, text), lambda: read_value(text=text, kind=kind)):
                    with self.assertRaises(InvalidKind) as caught:
                        ask()
                    self.assertIs(caught.exception.given, kind)
        for thing in odd_things():
            if thing not in (("num",), ("unit",)) or type(thing) is not tuple:
                self.assertRaises(KindError, read_value, thing, None)

    def test_odd_kinds_are_told_as_they_are(self):
        for thing in odd_things():
            try:
                read_value(thing, None)
            except InvalidKind as error:
                self.assertIs(error.given, thing)
            except InvalidText as error:
                self.assertEqual((error.line, error.column), (None, None))
                self.assertIn(thing, (NUM, UNIT, ("list", NUM), ("pair", NUM, NUM), ("either", NUM, NUM)))

    def test_kinds_up_to_a_hundred_deep(self):
        kind = chain(lambda part: ("list", part), NUM, 100)
        self.assertEqual(read_value(kind, "[" * 99 + "]" * 99), chain(lambda part: (part,), (), 99))
        self.assertRaises(InvalidKind, read_value, ("list", kind), "[]")

    def test_deep_texts(self):
        self.assertEqual(read_kind("list " * 99 + "a"), chain(lambda part: ("list", part), A, 100))
        self.assertEqual(read_kind("a -> " * 99 + "a"), chain(lambda part: ("fun", A, part), A, 100))
        self.assertEqual(read_kind("a" + " | a" * 99), chain(lambda part: ("either", part, A), A, 100))
        self.assertEqual(read_kind("(" * 100 + "a" + ")" * 100), A)
        self.assertEqual(read_term("(" * 100 + "x" + ")" * 100), X)
        self.assertEqual(read_term("- " * 99 + "x"), chain(lambda part: ("minus", part), X, 100))
        self.assertEqual(read_term("fn x: a. " * 99 + "x"), chain(lambda part: ("fn", "x", A, part), X, 100))
        self.assertEqual(read_term("let x = y in " * 99 + "x"), chain(lambda part: ("let", "x", Y, part), X, 100))
        self.assertEqual(read_term("x" + " + y" * 99), chain(lambda part: ("plus", part, Y), X, 100))
        self.assertEqual(read_term("x" + "(y)" * 99), chain(lambda part: ("call", part, Y), X, 100))
        self.assertEqual(read_term("case " * 99 + "x" + " {y. y; z. z}" * 99), chain(
            lambda part: ("case", part, "y", Y, "z", Z), X, 100))
        self.refused(read_term, "(" * 100, 1, 101)
        self.refused(read_kind, "list " * 100, 1, 501)
        self.refused(read_term, "case " * 100 + ")", 1, 501)

    def test_long_texts(self):
        self.assertEqual(read_value(("list", NUM), "[" + "1, " * 5000 + "1]"), (1,) * 5001)
        self.refused(of_kind(("list", NUM)), "[" + "1,\n" * 5000 + "]", 5001, 1)


if __name__ == "__main__":
    unittest.main()

"""Points 4, 5, 6 and A3: names, terms, terms as written, their parts, paths, depth and free names."""

import copy
import itertools
import unittest

from bykindalone.errors import InvalidTerm
from bykindalone.terms import depth_of, free_names, is_name, is_term, is_written, part_at, parts_of
from made import FORMS, atoms, term_from, wrapped
from things import A, B, NUM, UNIT, Unhashable, chain, deep_things, odd_things, odd_words

X, Y, Z = ("name", "x"), ("name", "y"), ("name", "z")
MOST = 10 ** 400 - 1
WORDS = "fn let in case unit num list nil cons fold first second left right".split()

# One term of each word, and what stands in each place of it: N a name, K a kind, T a term, S a sign, I a number.
SAMPLES = (
    (("name", "x"), "N"), (("fn", "x", A, X), "NKT"), (("call", X, Y), "TT"), (("let", "x", Y, X), "NTT"),
    (("unit",), ""), (("number", 7), "I"), (("plus", X, Y), "TT"), (("times", X, Y), "TT"), (("minus", X), "T"),
    (("is", "<", X, Y), "STT"), (("is", "<=", X, Y), "STT"), (("is", "==", X, Y), "STT"), (("pair", X, Y), "TT"),
    (("first", X), "T"), (("second", X), "T"), (("left", X, NUM), "TK"), (("right", NUM, X), "KT"),
    (("case", X, "x", Y, "y", Z), "TNTNT"), (("nil", A), "K"), (("cons", X, Y), "TT"), (("fold", X, Y, Z), "TTT"),
)
# What may not stand where a thing of the sort is due.
WRONG = {
    "N": ["", "fn", "unit", "in", "1x", "X", "x_", "abcdefghi", "x y", None, 3, ("name", "x"), ["x"], b"x", Unhashable()],
    "K": ["num", ("num", NUM), ("var", "d"), ["num"], None, X, (), ("list",), ("fun", NUM), ("either", NUM, X)],
    "T": ["x", None, 3, (), (None,), ["name", "x"], ("nam", "x"), NUM, A, ("list", X), ("pair", X, Y, Z), ("unit", X)],
    "S": ["=", ">", "!=", "", "< ", "=<", "===", None, 0, ("<",), ["<"], b"<", X, Unhashable()],
    "I": [True, False, None, "7", (7,), [7], MOST + 1, -MOST - 1, 10 ** 5000, X, b"7", Unhashable()],
}
UNITS = ("unit",)
GOOD_NAMES = (
    "a", "b", "c", "x", "y", "z", "x1", "x0", "a0", "z9", "abcdefgh", "a1234567", "zzzzzzzz", "fn1", "fns", "f", "n", "i",
    "inn", "lets", "units", "nums", "lists", "nils", "firsts", "seconds", "lefts", "rights", "folds", "cases", "name",
    "var", "pair", "either", "fun", "call", "number", "plus", "times", "minus", "is", "test", "all", "one", "two", "conss",
)
NO_NAMES = (
    "", " ", "1", "1x", "0", "12345678", "9abc", "X", "xY", "Xy", "x_", "_x", "x-", "x.", "x y", " x", "x ", "x\n", "\nx",
    "x\t", "abcdefghi", "a12345678", "aaaaaaaaaa", "\u00e9", "x\u00e9", "\u0430", "x\u0663", "x\u00b2", "\u00aa", "\u1d43",
    "x\u0000", "x'", "#x", "x,y", "(x)", "\ud800",
)


def path_of_wrong(value, path=(), level=1):
    """The path to what is wrong first in what should be a term; None. Told apart from the program."""
    form = None
    if type(value) is tuple and value and type(value[0]) is str:
        form = FORMS.get(value[0])
    if form is None or len(value) != len(form) + 1 or level > 100:
        return path
    for at, sort in enumerate(form, start=1):
        told = value[at]
        if sort == "T":
            found = path_of_wrong(told, path + (at,), level + 1)
            if found is not None:
                return found
        elif not fits(sort, told):
            return path + (at,)
    return None


def fits(sort, told):
    if sort == "N":
        return type(told) is str and told in GOOD_NAMES
    if sort == "S":
        return type(told) is str and told in ("<", "<=", "==")
    if sort == "I":
        return type(told) is int and abs(told) <= MOST
    return told in (A, B, NUM, UNIT, ("list", A))


def paths_in(term):
    """The paths to all parts of a term with these parts, in order."""
    rows = [((), term)]
    for at, sort in enumerate(FORMS[term[0]], start=1):
        if sort == "T":
            rows += [((at,) + path, part) for path, part in paths_in(term[at])]
    return rows


def free_in(term):
    """The names that are free in a term, as a set."""
    word = term[0]
    if word == "name":
        return {term[1]}
    if word == "fn":
        return free_in(term[3]) - {term[1]}
    if word == "let":
        return free_in(term[2]) | (free_in(term[3]) - {term[1]})
    if word == "case":
        return free_in(term[1]) | (free_in(term[3]) - {term[2]}) | (free_in(term[5]) - {term[4]})
    found = set()
    for at, sort in enumerate(FORMS[word], start=1):
        if sort == "T":
            found |= free_in(term[at])
    return found


def with_at(term, path, thing):
    """The term with another thing at the path."""
    if not path:
        return thing
    at = path[0]
    return term[:at] + (with_at(term[at], path[1:], thing),) + term[at + 1:]


def wraps():
    """Functions that each put a term into one of another word or at another place."""
    return [
        lambda term, place=place: wrapped(term)[place][0] for place in range(len(wrapped(X)))
    ]


def tree(many):
    """A term of as many parts, an odd number, not deep."""
    terms = [UNITS] * ((many + 1) // 2)
    while len(terms) > 1:
        terms = [("pair",) + tuple(terms[:2])] + terms[2:] if len(terms) == 2 else [
            ("pair", terms[at], terms[at + 1]) if at + 1 < len(terms) else terms[at] for at in range(0, len(terms), 2)
        ]
    return terms[0]


class TestNames(unittest.TestCase):
    def test_names(self):
        for name in GOOD_NAMES:
            self.assertIs(is_name(name), True, name)
            self.assertIs(is_name(value=name), True, name)

    def test_words_are_none(self):
        for word in WORDS:
            self.assertIs(is_name(word), False, word)
            self.assertIs(is_name(word + "1"), len(word) < 8, word)

    def test_what_is_near_to_names_is_none(self):
        for name in NO_NAMES:
            self.assertIs(is_name(name), False, repr(name))

    def test_up_to_eight_signs(self):
        for many in range(0, 12):
            for sign in "ax":
                self.assertIs(is_name(sign * many), 1 <= many <= 8)
                self.assertIs(is_name(sign + "7" * many), many <= 7)

    def test_each_sign_ahead_and_behind(self):
        for code in list(range(0, 1200)) + [0x2028, 0xff41, 0xff11, 0x1d7d8]:
            sign = chr(code)
            small = "a" <= sign <= "z"
            self.assertIs(is_name(sign), small, code)
            self.assertIs(is_name(sign + "x"), small, code)
            self.assertIs(is_name("x" + sign), small or "0" <= sign <= "9", code)
            self.assertIs(is_name("x" + sign + "x"), small or "0" <= sign <= "9", code)

    def test_whatever_it_is(self):
        for thing in odd_things() + odd_words():
            told = isinstance(thing, str) and thing in ("d", "aa", "ab", "abc", "x", "number", "name", "int", "tuple", "both", "one")
            self.assertIs(is_name(thing), told, repr(thing)[:60])


class TestTerms(unittest.TestCase):
    def test_terms_of_each_word(self):
        for term, _ in SAMPLES:
            self.assertIs(is_term(term), True, term)
            self.assertIs(is_term(value=term), True, term)
            self.assertIs(is_written(term), True, term)
            self.assertIs(is_written(value=term), True, term)

    def test_terms_within_one_another(self):
        for term, _ in SAMPLES:
            for whole, _, _ in wrapped(term):
                self.assertIs(is_term(whole), True, whole)
                for outer, _, _ in wrapped(whole):
                    self.assertIs(is_term(outer), True, outer)

    def test_the_same_term_in_another_make_is_none(self):
        for term, _ in SAMPLES:
            for thing in (list(term), term + (None,), term[:-1], (term,), term + term, term[::-1] + (), dict.fromkeys(term)):
                told = thing == term or thing in [sample for sample, _ in SAMPLES]
                self.assertIs(is_term(thing), told, thing)
                self.assertIs(is_written(thing), told, thing)
            for word in odd_words():
                thing = (word,) + term[1:]
                told = isinstance(word, str) and path_of_wrong(thing) is None
                self.assertIs(is_term(thing), told, thing)

    def test_each_thing_in_it_put_for_a_wrong_one(self):
        for term, sorts in SAMPLES:
            for at, sort in enumerate(sorts, start=1):
                for thing in WRONG[sort]:
                    wrong = with_at(term, (at,), thing)
                    with self.subTest(word=term[0], at=at):
                        self.assertIs(is_term(wrong), False)
                        self.assertIs(is_written(wrong), False)

    def test_kinds_are_no_terms(self):
        for kind in (NUM, A, ("list", NUM), ("pair", NUM, NUM), ("fun", A, A), ("either", UNIT, UNIT)):
            self.assertIs(is_term(kind), False)
        self.assertIs(is_term(UNIT), True)

    def test_whatever_it_is(self):
        for thing in odd_things():
            told = path_of_wrong(thing) is None
            self.assertIs(is_term(thing), told, repr(thing)[:60])
            self.assertIs(is_written(thing), told, repr(thing)[:60])

    def test_numbers_of_up_to_four_hundred_figures(self):
        for number in (0, 1, -1, 10 ** 399, -10 ** 399, MOST, -MOST):
            self.assertIs(is_term(("number", number)), True)
            self.assertIs(is_written(("number", number)), True)
        for number in (MOST + 1, -MOST - 1, 10 ** 401, 10 ** 5000, -10 ** 5000, True, False):
            self.assertIs(is_term(("number", number)), False)
            self.assertIs(is_written(("number", number)), False)

    def test_counted_terms(self):
        for number in range(4000):
            self.assertIs(is_term(term_from(number)), True)
            self.assertIs(is_written(term_from(number)), True)

    def test_the_let_of_the_document(self):
        self.assertIs(is_term(("let", "x", X, X)), True)


class TestDeep(unittest.TestCase):
    def test_terms_up_to_a_hundred_deep(self):
        for wrap in wraps():
            for last in atoms():
                for levels in (99, 100):
                    self.assertIs(is_term(chain(wrap, last, levels)), True)
                for levels in (101, 102, 150, 295):
                    self.assertIs(is_term(chain(wrap, last, levels)), False)

    def test_terms_as_written_up_to_sixteen_deep(self):
        for wrap in wraps():
            for last in atoms():
                for levels in (15, 16):
                    self.assertIs(is_written(chain(wrap, last, levels)), True)
                for levels in (17, 18, 100, 101, 295):
                    self.assertIs(is_written(chain(wrap, last, levels)), False)

    def test_the_first_part_that_is_too_deep_is_told(self):
        for wrap, (_, path, word) in zip(wraps(), wrapped(X)):
            # Of the parts that stand too deep the first one is told, which may be another one of the same term.
            first = (FORMS[word].index("T") + 1,)
            for levels in (101, 102, 200):
                for ask in (parts_of, depth_of, free_names):
                    with self.assertRaises(InvalidTerm) as caught:
                        ask(chain(wrap, X, levels))
                    self.assertEqual(caught.exception.place, path * 99 + first)
            self.assertEqual(depth_of(chain(wrap, X, 100)), 100)

    def test_what_is_wrong_ahead_of_a_deep_part_is_told_first(self):
        deep = chain(lambda term: ("minus", term), X, 101)
        for wrong, place in (
            (("pair", ("name", "X"), deep), (1, 1)),
            (("pair", deep, ("name", "X")), (1,) + (1,) * 99),
            (("is", "=", deep, X), (1,)),
            (("left", deep, ("num", "num")), (1,) + (1,) * 99),
            (("right", ("num", "num"), deep), (1,)),
            (("minus", deep), (1,) * 100),
        ):
            with self.assertRaises(InvalidTerm) as caught:
                parts_of(wrong)
            self.assertEqual(caught.exception.place, place)

    def test_a_wrong_part_at_the_bottom(self):
        for levels in (2, 50, 100):
            wrong = chain(lambda term: ("fold", X, X, term), ("name", "fold"), levels)
            with self.assertRaises(InvalidTerm) as caught:
                depth_of(wrong)
            self.assertEqual(caught.exception.place, (3,) * (levels - 1) + (1,))

    def test_kinds_in_terms(self):
        for levels, written, told in ((5, True, True), (6, True, True), (7, False, True), (100, False, True), (101, False, False)):
            for wrap in (lambda kind: ("list", kind), lambda kind: ("fun", kind, A), lambda kind: ("pair", NUM, kind)):
                kind = chain(wrap, NUM, levels)
                for term, at in ((("fn", "x", kind, X), 2), (("left", X, kind), 2), (("right", kind, X), 1), (("nil", kind), 1)):
                    self.assertIs(is_term(term), told)
                    self.assertIs(is_written(term), written)
                    self.assertIs(is_written(("pair", X, term)), written)
                    if not told:
                        with self.assertRaises(InvalidTerm) as caught:
                            parts_of(("pair", X, term))
                        self.assertEqual(caught.exception.place, (2, at))

    def test_a_deep_kind_in_a_deep_term(self):
        nil = ("nil", chain(lambda kind: ("list", kind), NUM, 100))
        self.assertIs(is_term(chain(lambda term: ("minus", term), nil, 100)), True)
        self.assertEqual(depth_of(chain(lambda term: ("minus", term), nil, 100)), 100)
        self.assertIs(is_written(chain(lambda term: ("minus", term), ("nil", chain(lambda kind: ("list", kind), A, 6)), 16)), True)

    def test_up_to_a_hundred_and_twenty_parts(self):
        for many in (1, 3, 5, 117, 119, 121, 123, 255):
            term = tree(many)
            self.assertEqual(parts_of(term), many)
            self.assertLessEqual(depth_of(term), 16)
            self.assertIs(is_written(term), many <= 120)
            self.assertIs(is_written(("minus", term)), many + 1 <= 120)
            self.assertIs(is_term(("minus", term)), True)
        self.assertEqual(parts_of(("minus", tree(119))), 120)
        self.assertIs(is_written(("minus", tree(119))), True)
        self.assertIs(is_written(("pair", ("minus", tree(59)), tree(59))), True)
        self.assertEqual(parts_of(("pair", ("minus", tree(59)), tree(59))), 120)
        self.assertIs(is_written(("pair", ("minus", tree(59)), ("minus", tree(59)))), False)
        self.assertEqual(parts_of(("pair", ("minus", tree(59)), ("minus", tree(59)))), 121)

    def test_names_kinds_and_signs_count_for_no_parts(self):
        self.assertEqual(parts_of(("is", "<", X, X)), 3)
        self.assertEqual(parts_of(("case", X, "x", X, "y", X)), 4)
        self.assertEqual(parts_of(("nil", ("list", ("list", NUM)))), 1)
        self.assertEqual(depth_of(("nil", ("list", ("list", NUM)))), 1)
        self.assertEqual(parts_of(("fn", "x", ("list", NUM), X)), 2)

    def test_a_long_term_that_is_not_deep(self):
        term = X
        for _ in range(10):
            term = ("fold", term, X, term)
        self.assertEqual([parts_of(term), depth_of(term), free_names(term)], [1 + 2 * (2 ** 10 - 1) + 2 ** 10 - 1, 11, ("x",)])
        self.assertIs(is_written(term), False)


class TestParts(unittest.TestCase):
    def test_parts_and_depth_of_counted_terms(self):
        for number in range(3000):
            term = term_from(number)
            rows = paths_in(term)
            self.assertEqual(parts_of(term), len(rows))
            self.assertEqual(depth_of(term), max(len(path) for path, _ in rows) + 1)
            self.assertEqual(parts_of(term=term), len(rows))
            self.assertEqual(depth_of(term=term), depth_of(term))

    def test_parts_and_depth_of_one_term_of_each_word(self):
        for term, sorts in SAMPLES:
            self.assertEqual(parts_of(term), 1 + sorts.count("T"))
            self.assertEqual(depth_of(term), 2 if "T" in sorts else 1)

    def test_each_path_of_counted_terms(self):
        for number in range(0, 40000, 13):
            term = term_from(number)
            rows = dict(paths_in(term))
            for path, part in rows.items():
                self.assertEqual(part_at(term, path), part)
                self.assertEqual(part_at(path=path, term=term), part)
                for at in range(-7, 8):
                    if path + (at,) not in rows:
                        self.assertIsNone(part_at(term, path + (at,)))

    def test_all_short_paths(self):
        terms = [whole for term, _ in SAMPLES for whole, _, _ in wrapped(term)]
        for term in terms:
            rows = dict(paths_in(term))
            for many in (0, 1, 2, 3):
                for path in itertools.product(range(0, 6), repeat=many):
                    self.assertEqual(part_at(term, path), rows.get(path))

    def test_paths_of_each_word(self):
        for term, sorts in SAMPLES:
            self.assertEqual(part_at(term, ()), term)
            for at in range(-8, 9):
                told = term[at] if 1 <= at <= len(sorts) and sorts[at - 1] == "T" else None
                self.assertEqual(part_at(term, (at,)), told)

    def test_paths_that_lead_to_none(self):
        term = ("fn", "x", ("list", NUM), ("case", X, "y", ("is", "<", X, ("number", 3)), "z", ("nil", ("list", A))))
        self.assertEqual(part_at(term, (3, 3, 3)), ("number", 3))
        for path in (
            (0,), (1,), (2,), (4,), (-1,), (2, 1), (1, 0), (3, 0), (3, 2), (3, 3, 1), (3, 3, 3, 1), (3, 3, 2, 1),
            (3, 5, 1), (3, 5, 1, 1), (3, -1), (3, 3, 4), (True,), (3, True), (False,), (10 ** 400,), ("3",), (None,),
            ((3,),), (3, (3,)), ([3],), (3, None), (b"3",), ({},),
        ):
            self.assertIsNone(part_at(term, path), path)

    def test_true_is_no_index(self):
        self.assertEqual(part_at(("minus", X), (1,)), X)
        self.assertIsNone(part_at(("minus", X), (True,)))
        self.assertIsNone(part_at(("minus", ("minus", X)), (1, True)))

    def test_a_path_is_a_tuple_whatever_else_it_is(self):
        for thing in odd_things():
            told = {"()": ("minus", X), "(1,)": X}.get(repr(thing) if type(thing) is tuple else None)
            self.assertEqual(part_at(("minus", X), thing), told)
            self.assertEqual(part_at(term=("minus", X), path=thing), told)
            self.assertEqual(part_at(("minus", X), (thing,)), X if type(thing) is int and thing == 1 else None)
            self.assertIsNone(part_at(("minus", X), (1, thing)))
        for thing in ([], [1], [3, 3], "", "1", range(0), range(1, 2), {}, {1}, iter([1]), b"", 1, None):
            self.assertIsNone(part_at(("minus", X), thing))

    def test_deep_paths(self):
        term = chain(lambda part: ("fold", X, part, Y), Z, 100)
        self.assertEqual(part_at(term, (2,) * 99), Z)
        self.assertEqual(part_at(term, (2,) * 98), ("fold", X, Z, Y))
        self.assertIsNone(part_at(term, (2,) * 100))
        self.assertIsNone(part_at(term, (2,) * 250))
        self.assertIsNone(part_at(term, (2,) * 98 + (4,)))
        self.assertEqual(part_at(term, (2,) * 98 + (3,)), Y)


class TestFreeNames(unittest.TestCase):
    def told(self, term, names):
        self.assertEqual(free_names(term), names, term)
        self.assertEqual(free_names(term=term), names, term)
        self.assertIsInstance(free_names(term), tuple)

    def test_names_that_are_bound_nowhere(self):
        self.told(X, ("x",))
        self.told(UNITS, ())
        self.told(("number", 3), ())
        self.told(("nil", A), ())
        self.told(("plus", Y, X), ("x", "y"))
        self.told(("plus", X, X), ("x",))
        self.told(("fold", Z, Y, X), ("x", "y", "z"))
        self.told(("pair", ("name", "x2"), ("pair", ("name", "x10"), ("name", "x"))), ("x", "x10", "x2"))

    def test_fn_binds_in_its_term(self):
        self.told(("fn", "x", A, X), ())
        self.told(("fn", "x", A, Y), ("y",))
        self.told(("fn", "a", A, ("name", "a")), ())
        self.told(("fn", "x", ("var", "b"), ("pair", X, ("name", "b"))), ("b",))
        self.told(("call", ("fn", "x", A, X), X), ("x",))
        self.told(("call", X, ("fn", "x", A, X)), ("x",))

    def test_let_binds_behind_in_alone(self):
        self.told(("let", "x", X, X), ("x",))
        self.told(("let", "x", Y, X), ("y",))
        self.told(("let", "x", X, Y), ("x", "y"))
        self.told(("let", "x", UNITS, X), ())
        self.told(("let", "x", ("fn", "x", A, X), X), ())
        self.told(("let", "x", ("let", "x", X, X), X), ("x",))

    def test_case_binds_each_name_on_its_side_alone(self):
        self.told(("case", X, "x", X, "y", Y), ("x",))
        self.told(("case", UNITS, "x", X, "y", Y), ())
        self.told(("case", UNITS, "x", Y, "y", X), ("x", "y"))
        self.told(("case", UNITS, "x", X, "x", X), ())
        self.told(("case", Y, "x", X, "y", Y), ("y",))
        self.told(("case", ("pair", X, Y), "x", X, "y", Y), ("x", "y"))
        self.told(("case", UNITS, "y", X, "y", Y), ("x",))

    def test_names_bound_hidden_and_free_again(self):
        self.told(("fn", "x", A, ("pair", X, ("fn", "x", B, X))), ())
        self.told(("pair", ("fn", "x", A, ("fn", "x", B, X)), X), ("x",))
        self.told(("fn", "x", A, ("pair", ("fn", "y", B, ("pair", X, Y)), Y)), ("y",))
        self.told(("fn", "x", A, ("let", "x", X, ("case", X, "x", X, "y", ("pair", X, Y)))), ())
        self.told(("let", "y", ("fn", "x", A, ("call", Y, X)), ("fn", "x", A, ("call", Y, Z))), ("y", "z"))

    def test_counted_terms(self):
        for number in range(4000):
            term = term_from(number)
            self.told(term, tuple(sorted(free_in(term))))
            self.told(("fn", "x", A, term), tuple(sorted(free_in(term) - {"x"})))
            self.told(("case", term, "x", term, "y", term), tuple(sorted(free_in(term))))

    def test_deep_terms(self):
        term = chain(lambda part: ("fn", "x", A, part), ("pair", X, Y), 99)
        self.told(term, ("y",))
        self.told(chain(lambda part: ("let", "x", part, UNITS), ("pair", X, Y), 99), ("x", "y"))


class TestWrong(unittest.TestCase):
    def refused(self, term, place):
        for ask in (parts_of, depth_of, free_names):
            with self.assertRaises(InvalidTerm) as caught:
                ask(term)
            self.assertEqual(caught.exception.place, place)
            with self.assertRaises(InvalidTerm) as caught:
                ask(term=term)
            self.assertEqual(caught.exception.place, place)
        for path in ((), (1,), None, "x", [1]):
            with self.assertRaises(InvalidTerm) as caught:
                part_at(term, path)
            self.assertEqual(caught.exception.place, place)
            with self.assertRaises(InvalidTerm) as caught:
                part_at(path=path, term=term)
            self.assertEqual(caught.exception.place, place)

    def test_by_hand(self):
        for term, place in (
            (None, ()), ((), ()), ("x", ()), (["name", "x"], ()), (("name",), ()), (("name", "x", "y"), ()),
            (("name", "X"), (1,)), (("name", ("name", "x")), (1,)), (("lambda", "x"), ()), (("unit", ()), ()),
            (("number", True), (1,)), (("number", 10 ** 400), (1,)), (("number", "3"), (1,)),
            (("fn", "fn", "num", None), (1,)), (("fn", "x", "num", None), (2,)), (("fn", "x", NUM, None), (3,)),
            (("fn", "x", ("list", ("var", "d")), X), (2,)), (("fn", "x", NUM, ("name", "fn")), (3, 1)),
            (("is", ">", None, None), (1,)), (("is", "<", None, None), (2,)), (("is", "<", X, None), (3,)),
            (("case", None, None, None, None, None), (1,)), (("case", X, None, None, None, None), (2,)),
            (("case", X, "x", None, None, None), (3,)), (("case", X, "x", X, None, None), (4,)),
            (("case", X, "x", X, "x", None), (5,)), (("case", X, "x", X, "x", X), None),
            (("let", "x", ("name", "let"), ("name", "in")), (2, 1)), (("let", "x", X, ("name", "in")), (3, 1)),
            (("pair", ("pair", X, ("pair", X, 3)), None), (1, 2, 2)), (("pair", ("pair", X, X, X), None), (1,)),
            (("left", ("name", 3), NUM), (1, 1)), (("left", X, X), (2,)), (("right", X, X), (1,)),
            (("right", NUM, NUM), (2,)), (("nil", UNIT), None), (("nil", UNITS), None), (("nil", X), (1,)),
            (("fold", X, X, ("fold", X, ("fold", X, X), X)), (3, 2)), (("plus", X), ()), (("minus", X, X), ()),
        ):
            with self.subTest(repr(term)[:80]):
                if place is None:
                    self.assertIs(is_term(term), True)
                else:
                    self.assertIs(is_term(term), False)
                    self.refused(term, place)

    def test_each_thing_put_for_a_wrong_one(self):
        for term, sorts in SAMPLES:
            for at, sort in enumerate(sorts, start=1):
                for thing in WRONG[sort]:
                    wrong = with_at(term, (at,), thing)
                    told = path_of_wrong(wrong)
                    self.assertIsNotNone(told)
                    self.refused(wrong, told)
                    for whole, path, _ in wrapped(wrong):
                        with self.assertRaises(InvalidTerm) as caught:
                            depth_of(whole)
                        self.assertEqual(caught.exception.place, path + told)

    def test_of_two_wrong_things_the_first_one_is_told(self):
        for term, sorts in SAMPLES:
            for one, two in itertools.combinations(range(1, len(sorts) + 1), 2):
                for first in WRONG[sorts[one - 1]]:
                    second = WRONG[sorts[two - 1]][0]
                    wrong = with_at(with_at(term, (one,), first), (two,), second)
                    with self.assertRaises(InvalidTerm) as caught:
                        free_names(wrong)
                    self.assertEqual(caught.exception.place, path_of_wrong(with_at(term, (one,), first)))

    def test_a_part_itself_goes_ahead_of_what_is_in_it(self):
        self.refused(("pair", ("pair", None, None, None), None), (1,))
        self.refused(("minus", ("name", None), None), ())
        self.refused(("pair", ("minus", ("name", 3)), ("nam", 3)), (1, 1, 1))

    def test_wrong_things_in_counted_terms(self):
        for number in range(0, 6000, 7):
            term = term_from(number)
            for path, part in paths_in(term):
                for thing in (None, (), ("name", "X"), part + (X,), part[:-1] + ([],) if len(part) > 1 else None):
                    wrong = with_at(term, path, thing)
                    with self.assertRaises(InvalidTerm) as caught:
                        parts_of(wrong)
                    place = caught.exception.place
                    self.assertEqual(place[:len(path)], path)
                    self.assertEqual(place[len(path):], () if thing is None or len(thing) != len(part) and thing != ("name", "X") else place[len(path):])

    def test_whatever_it_is(self):
        for thing in odd_things():
            told = path_of_wrong(thing)
            if told is not None:
                self.refused(thing, told)
        for thing in deep_things():
            self.refused(("minus", thing), (1,) + path_of_wrong(thing, level=2))

    def test_the_term_is_told_ahead_of_the_path(self):
        with self.assertRaises(InvalidTerm) as caught:
            part_at(("minus", None), ["no path"])
        self.assertEqual(caught.exception.place, (1,))

    def test_nothing_passed_is_changed(self):
        for thing in (["name", "x"], ("pair", ["name"], {"x": []}), ("fn", ["x"], ["num"], [X]), ("number", [3])):
            kept = copy.deepcopy(thing)
            is_term(thing), is_written(thing), is_name(thing)
            for ask in (parts_of, depth_of, free_names):
                self.assertRaises(InvalidTerm, ask, thing)
            self.assertEqual(thing, kept)
        path = [1, [2]]
        self.assertIsNone(part_at(("minus", X), path))
        self.assertEqual(path, [1, [2]])

    def test_what_can_be_gone_through_once_is_not_gone_through(self):
        thing = iter(["name", "x"])
        self.assertIs(is_term(thing), False)
        self.assertRaises(InvalidTerm, parts_of, thing)
        self.assertEqual(list(thing), ["name", "x"])

    def test_a_second_call_tells_the_same(self):
        for number in range(500):
            term = term_from(number * 31)
            self.assertEqual(free_names(term), free_names(term))
            self.assertEqual([parts_of(term), depth_of(term)], [parts_of(term), depth_of(term)])
            self.assertEqual(is_written(term), is_written(term))


if __name__ == "__main__":
    unittest.main()

"""Texts of kinds, terms and values, what they tell, and changes of them."""

from bykindalone.kinds import TRUTH
from grammar import tokens_of
from things import A, B, C, NUM, UNIT

F, X, Y, Z, P, Q = [("name", name) for name in "fxyzpq"]
ONE, TWO, THREE = [("number", number) for number in (1, 2, 3)]
NIL = ("nil", A)

KINDS = {
    "unit": UNIT, "num": NUM, "a": A, "b": B, "c": C, "(a)": A, "((unit))": UNIT,
    "list a": ("list", A), "list list num": ("list", ("list", NUM)), "list (a)": ("list", A),
    "(a, b)": ("pair", A, B), "((a), (b))": ("pair", A, B), "((a, b), c)": ("pair", ("pair", A, B), C),
    "(a, (b, c))": ("pair", A, ("pair", B, C)), "a | b": ("either", A, B), "a -> b": ("fun", A, B),
    "a | b | c": ("either", ("either", A, B), C), "(a | b) | c": ("either", ("either", A, B), C),
    "a | (b | c)": ("either", A, ("either", B, C)), "a | b | c | num": ("either", ("either", ("either", A, B), C), NUM),
    "a -> b -> c": ("fun", A, ("fun", B, C)), "a -> (b -> c)": ("fun", A, ("fun", B, C)),
    "(a -> b) -> c": ("fun", ("fun", A, B), C), "a -> b -> c -> num": ("fun", A, ("fun", B, ("fun", C, NUM))),
    "a | b -> c | num": ("fun", ("either", A, B), ("either", C, NUM)),
    "a | (b -> c)": ("either", A, ("fun", B, C)), "(a -> b) | c": ("either", ("fun", A, B), C),
    "list a | b": ("either", ("list", A), B), "a | list b": ("either", A, ("list", B)),
    "list (a | b)": ("list", ("either", A, B)), "list a -> b": ("fun", ("list", A), B),
    "list (a -> b)": ("list", ("fun", A, B)), "a -> list b": ("fun", A, ("list", B)),
    "list (a, b)": ("list", ("pair", A, B)), "(a -> b, c | num)": ("pair", ("fun", A, B), ("either", C, NUM)),
    "(list a, a -> b -> c)": ("pair", ("list", A), ("fun", A, ("fun", B, C))), "list list list unit": (
        "list", ("list", ("list", UNIT))),
}
TERMS = {
    "x": X, "a": ("name", "a"), "abcdefgh": ("name", "abcdefgh"), "x1": ("name", "x1"), "fn1": ("name", "fn1"),
    "either": ("name", "either"), "list1": ("name", "list1"), "is": ("name", "is"), "cases": ("name", "cases"),
    "0": ("number", 0), "1": ONE, "-1": ("number", -1), "120": ("number", 120), "-907": ("number", -907),
    "()": ("unit",), "(x)": X, "((x))": X, "(())": ("unit",), "(x, y)": ("pair", X, Y),
    "((x, y), z)": ("pair", ("pair", X, Y), Z), "(x, (y, z))": ("pair", X, ("pair", Y, Z)), "((), ())": (
        "pair", ("unit",), ("unit",)),
    "fn x: a. y": ("fn", "x", A, Y), "fn x: a -> b. fn y: list c. x": ("fn", "x", ("fun", A, B), ("fn", "y", ("list", C), X)),
    "fn x: a. x + y": ("fn", "x", A, ("plus", X, Y)), "fn x: a. x(y)": ("fn", "x", A, ("call", X, Y)),
    "fn x: a. x < y": ("fn", "x", A, ("is", "<", X, Y)), "fn a: a. a": ("fn", "a", A, ("name", "a")),
    "let x = y in z": ("let", "x", Y, Z), "let x = let y = z in p in q": ("let", "x", ("let", "y", Z, P), Q),
    "let x = y in let y = x in z": ("let", "x", Y, ("let", "y", X, Z)), "let x = y < z in x + y": (
        "let", "x", ("is", "<", Y, Z), ("plus", X, Y)),
    "let x = fn y: a. y in x": ("let", "x", ("fn", "y", A, Y), X), "fn x: a. let y = x in y": ("fn", "x", A, ("let", "y", X, Y)),
    "f(x)": ("call", F, X), "f(x)(y)": ("call", ("call", F, X), Y), "f(x(y))": ("call", F, ("call", X, Y)),
    "f(())": ("call", F, ("unit",)), "f((x, y))": ("call", F, ("pair", X, Y)), "(f)(x)": ("call", F, X),
    "f (x) (y)": ("call", ("call", F, X), Y), "3(x)": ("call", THREE, X), "()(x)": ("call", ("unit",), X),
    "()()": None, "(x, y)(z)": ("call", ("pair", X, Y), Z), "nil(a)(x)": ("call", NIL, X),
    "first(x)(y)": ("call", ("first", X), Y), "(fn x: a. x)(y)": ("call", ("fn", "x", A, X), Y),
    "f(fn x: a. x)": ("call", F, ("fn", "x", A, X)), "f(let x = y in z)": ("call", F, ("let", "x", Y, Z)),
    "f(x < y)": ("call", F, ("is", "<", X, Y)), "case x {y. y; z. z}(p)": ("call", ("case", X, "y", Y, "z", Z), P),
    "x + y": ("plus", X, Y), "x + y + z": ("plus", ("plus", X, Y), Z), "x + (y + z)": ("plus", X, ("plus", Y, Z)),
    "x * y": ("times", X, Y), "x * y * z": ("times", ("times", X, Y), Z), "x * (y * z)": ("times", X, ("times", Y, Z)),
    "x + y * z": ("plus", X, ("times", Y, Z)), "x * y + z": ("plus", ("times", X, Y), Z),
    "(x + y) * z": ("times", ("plus", X, Y), Z), "x * (y + z)": ("times", X, ("plus", Y, Z)),
    "x * y + z * p": ("plus", ("times", X, Y), ("times", Z, P)), "x + y * z + p": ("plus", ("plus", X, ("times", Y, Z)), P),
    "f(x) + y(z)": ("plus", ("call", F, X), ("call", Y, Z)), "f(x) * y(z)": ("times", ("call", F, X), ("call", Y, Z)),
    "-x": ("minus", X), "- x": ("minus", X), "--x": ("minus", ("minus", X)), "- - x": ("minus", ("minus", X)),
    "- 3": ("minus", THREE), "-3": ("number", -3), "--3": ("minus", ("number", -3)), "- -3": ("minus", ("number", -3)),
    "- - 3": ("minus", ("minus", THREE)), "-(3)": ("minus", THREE), "-\n3": ("minus", THREE), "-#3\n3": ("minus", THREE),
    "-x(y)": ("minus", ("call", X, Y)), "(-x)(y)": ("call", ("minus", X), Y), "-3(x)": ("call", ("number", -3), X),
    "- 3(x)": ("minus", ("call", THREE, X)), "-(x)(y)": ("minus", ("call", X, Y)), "-x * y": ("times", ("minus", X), Y),
    "-x + y": ("plus", ("minus", X), Y), "x * -y": ("times", X, ("minus", Y)), "x + -y": ("plus", X, ("minus", Y)),
    "x + - y": ("plus", X, ("minus", Y)), "x + -1": ("plus", X, ("number", -1)), "x*-1": ("times", X, ("number", -1)),
    "-(x * y)": ("minus", ("times", X, Y)), "-(x + y)": ("minus", ("plus", X, Y)), "-()": ("minus", ("unit",)),
    "-(x, y)": ("minus", ("pair", X, Y)), "-first(x)": ("minus", ("first", X)), "-case x {y. y; z. z}": (
        "minus", ("case", X, "y", Y, "z", Z)),
    "x < y": ("is", "<", X, Y), "x <= y": ("is", "<=", X, Y), "x == y": ("is", "==", X, Y), "x<-1": ("is", "<", X, ("number", -1)),
    "x<=-1": ("is", "<=", X, ("number", -1)), "x==-y": ("is", "==", X, ("minus", Y)), "x + y < z * p": (
        "is", "<", ("plus", X, Y), ("times", Z, P)),
    "(x < y) < z": ("is", "<", ("is", "<", X, Y), Z), "x < (y < z)": ("is", "<", X, ("is", "<", Y, Z)),
    "x + (y < z)": ("plus", X, ("is", "<", Y, Z)), "first(x)": ("first", X), "second(x)": ("second", X),
    "first(x + y)": ("first", ("plus", X, Y)), "second(second(x))": ("second", ("second", X)), "first((x, y))": (
        "first", ("pair", X, Y)),
    "left(x, a)": ("left", X, A), "right(a, x)": ("right", A, X), "left(fn x: a. x, a -> b)": (
        "left", ("fn", "x", A, X), ("fun", A, B)),
    "right(a | b, let x = y in z)": ("right", ("either", A, B), ("let", "x", Y, Z)), "left((x, y), (a, b))": (
        "left", ("pair", X, Y), ("pair", A, B)),
    "case x {y. y; z. z}": ("case", X, "y", Y, "z", Z), "case x{x.x;x.x}": ("case", X, "x", X, "x", X),
    "case x < y {p. fn x: a. x; q. let x = y in z}": (
        "case", ("is", "<", X, Y), "p", ("fn", "x", A, X), "q", ("let", "x", Y, Z)),
    "case case x {y. y; z. z} {p. p; q. case q {y. y; z. z}}": (
        "case", ("case", X, "y", Y, "z", Z), "p", P, "q", ("case", Q, "y", Y, "z", Z)),
    "case fn x: a. x {y. y; z. z}": ("case", ("fn", "x", A, X), "y", Y, "z", Z),
    "case let x = y in z {y. y; z. z}": ("case", ("let", "x", Y, Z), "y", Y, "z", Z),
    "nil(a)": NIL, "nil(list (a, b))": ("nil", ("list", ("pair", A, B))), "nil(a -> b)": ("nil", ("fun", A, B)),
    "cons(x, y)": ("cons", X, Y), "cons(x, cons(y, nil(a)))": ("cons", X, ("cons", Y, NIL)), "cons(x < y, y + z)": (
        "cons", ("is", "<", X, Y), ("plus", Y, Z)),
    "fold(x, y, z)": ("fold", X, Y, Z), "fold(fn x: a. fn y: a. y, (), nil(a))": (
        "fold", ("fn", "x", A, ("fn", "y", A, Y)), ("unit",), NIL),
    "fold(fold(x, y, z), -1, f(x))": ("fold", ("fold", X, Y, Z), ("number", -1), ("call", F, X)),
    "fn x: a. x | y": None, "fn x: a. x -> y": None, "fn x: a | b. x": ("fn", "x", ("either", A, B), X),
}
VALUES = (
    (UNIT, "()", ()), (NUM, "0", 0), (NUM, "12", 12), (NUM, "-12", -12), (("pair", NUM, UNIT), "(3, ())", ("pair", 3, ())),
    (("pair", ("pair", NUM, NUM), NUM), "((1, 2), 3)", ("pair", ("pair", 1, 2), 3)),
    (("pair", NUM, ("pair", NUM, NUM)), "(1, (2, -3))", ("pair", 1, ("pair", 2, -3))),
    (TRUTH, "left(())", ("left", ())), (TRUTH, "right(())", ("right", ())), (("either", NUM, UNIT), "left(7)", ("left", 7)),
    (("either", NUM, UNIT), "right(())", ("right", ())),
    (("either", TRUTH, NUM), "left(right(()))", ("left", ("right", ()))), (("list", NUM), "[]", ()),
    (("list", NUM), "[1]", (1,)), (("list", NUM), "[1, -2, 0]", (1, -2, 0)), (("list", UNIT), "[(), ()]", ((), ())),
    (("list", ("list", NUM)), "[[], [1], [1, 2], []]", ((), (1,), (1, 2), ())),
    (("list", ("pair", TRUTH, NUM)), "[(left(()), 1), (right(()), 2)]", (("pair", ("left", ()), 1), ("pair", ("right", ()), 2))),
    (("pair", ("list", UNIT), ("list", NUM)), "([], [])", ("pair", (), ())),
)

# Texts that are changed in many ways.
KIND_SAMPLES = ("a", "num -> b", "list a -> (b, c)", "(a -> unit) | list (num | c)", "list list (a)\n | (b\n ->  # c\n c, unit) # e")
TERM_SAMPLES = (
    "x", "fn x: a. x1", "let x = 1 in -x", "x + y * -2 <= - f(3)(y)", "(x, ()) == (x)", "first(x)", "second((y))",
    "left(x, a | b)", "right(num, -3)", "case x {u. 1; v. v}", "nil(list a)", "cons(x, nil(a))", "fold(f, 0, z)",
    "let x # =\n  = 12\nin  x < \n y # in\n", "(fn f: a -> b. f)(x)",
)
VALUE_SAMPLES = (
    (UNIT, "()"), (NUM, "-12"), (("pair", NUM, ("list", UNIT)), "(0, [()])"), (("either", NUM, TRUTH), "right(left(()))"),
    (("list", ("pair", NUM, NUM)), "[(1, 2),\n (3, # 4\n  5)]\n"), (("list", ("list", NUM)), "[[], [1, 22]]"),
)
TOKENS = (
    "fn let in case unit num list nil cons fold first second left right a x 0 7 -7 -> <= == ( ) [ ] { } , . : ; | + * - < ="
).split()
SIGNS = "ax09-><=()[]{},.:;|+* \n#A_\t"


def spans(text):
    """The pairs of where each token begins and where it ends."""
    return [(at, at + len(told)) for told, at in tokens_of(text)[0]]


def with_tokens_changed(text):
    """The text with each token left out, told twice, and put for another one; and cut off ahead of and behind each."""
    for start, end in spans(text):
        yield text[:start] + text[end:]
        yield text[:end] + " " + text[start:]
        yield text[:start]
        yield text[:end]
        for token in TOKENS:
            yield text[:start] + token + text[end:]
            yield text[:start] + " " + token + " " + text[end:]
            yield text[:start] + token + " " + text[start:]
    for token in TOKENS:
        yield text + " " + token


def with_signs_changed(text):
    """The text with each sign left out, told twice, and put for another one, and cut off at each."""
    for at in range(len(text)):
        yield text[:at] + text[at + 1:]
        yield text[:at + 1] + text[at:]
        yield text[:at]
        yield text[at:]
        for sign in SIGNS:
            yield text[:at] + sign + text[at + 1:]
            yield text[:at] + sign + text[at:]


def spread(text, gap):
    """The text with the gap ahead of, between and behind all of its tokens."""
    tokens, bad = tokens_of(text)
    return gap + "".join(told + gap for told, _ in tokens)

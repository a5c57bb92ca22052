"""Kinds, terms and values that are made by counting: unlike numbers make unlike ones."""

FIRST_SIGNS = "xyabcdefghijklmnopqrstuvwz"
# With these no name is a word.
NEXT_SIGNS = "0123456789qz"

# By the first text of a term: N a name, K a kind, T a term, S a sign, I a number.
FORMS = {
    "name": "N", "fn": "NKT", "call": "TT", "let": "NTT", "unit": "", "number": "I", "plus": "TT", "times": "TT",
    "minus": "T", "is": "STT", "pair": "TT", "first": "T", "second": "T", "left": "TK", "right": "KT",
    "case": "TNTNT", "nil": "K", "cons": "TT", "fold": "TTT",
}
SIGNS = ("<", "<=", "==")


def split(number, many):
    """As many numbers, from each number other ones: every so-manieth figure of it, as it is written with 0 and 1."""
    parts = [0] * many
    at = 0
    while number:
        parts[at % many] |= (number & 1) << (at // many)
        number >>= 1
        at += 1
    return parts


def name_from(number):
    """A name, from each number another one."""
    number, at = divmod(number, len(FIRST_SIGNS))
    name = FIRST_SIGNS[at]
    while number:
        number, at = divmod(number - 1, len(NEXT_SIGNS))
        name += NEXT_SIGNS[at]
    return name


def whole_from(number):
    """A whole number, from each number another one: 0, -1, 1, -2, 2 .."""
    return -(number // 2) - 1 if number % 2 else number // 2


def kind_from(number, bases, words=("list", "pair", "either", "fun")):
    """A kind, from each number another one."""
    if number < len(bases):
        return bases[number]
    number, at = divmod(number - len(bases), len(words))
    many = 1 if words[at] == "list" else 2
    return (words[at],) + tuple(kind_from(part, bases, words) for part in split(number, many))


def term_from(number):
    """A term, from each number another one."""
    if number == 0:
        return ("unit",)
    words = [word for word in FORMS if word != "unit"]
    number, at = divmod(number - 1, len(words))
    form = FORMS[words[at]]
    told = []
    if form[0] == "S":
        number, sign = divmod(number, len(SIGNS))
        told.append(SIGNS[sign])
        form = form[1:]
    for sort, part in zip(form, split(number, len(form))):
        if sort == "N":
            told.append(name_from(part))
        elif sort == "K":
            told.append(kind_from(part, (("num",), ("unit",), ("var", "a"), ("var", "b"), ("var", "c"))))
        elif sort == "I":
            told.append(whole_from(part))
        else:
            told.append(term_from(part))
    return (words[at],) + tuple(told)


def value_from(kind, number):
    """A value of the closed data kind, from each number another one, as long as it has so many."""
    word = kind[0]
    if word == "unit":
        return ()
    if word == "num":
        return whole_from(number)
    if word == "pair":
        return ("pair",) + tuple(value_from(part, at) for part, at in zip(kind[1:], split(number, 2)))
    if word == "either":
        return ("right", value_from(kind[2], number // 2)) if number % 2 else ("left", value_from(kind[1], number // 2))
    if number == 0:
        return ()
    parts = split(number - 1, 2)
    return (value_from(kind[1], parts[0]),) + value_from(kind, parts[1])


def atoms():
    """The smallest terms, one of each make."""
    return [("name", "x"), ("unit",), ("number", 0), ("number", 3), ("number", -3), ("nil", ("var", "a"))]


def wrapped(term):
    """The term as a part of terms: triples of the whole, the path to the term, and the whole's first text."""
    x, a = ("name", "x"), ("var", "a")
    rows = [
        (("fn", "x", a, term), 3), (("call", term, x), 1), (("call", x, term), 2), (("let", "x", term, x), 2),
        (("let", "x", x, term), 3), (("plus", term, x), 1), (("plus", x, term), 2), (("times", term, x), 1),
        (("times", x, term), 2), (("minus", term), 1), (("is", "<", term, x), 2), (("is", "<", x, term), 3),
        (("is", "<=", term, x), 2), (("is", "<=", x, term), 3), (("is", "==", term, x), 2), (("is", "==", x, term), 3),
        (("pair", term, x), 1), (("pair", x, term), 2), (("first", term), 1), (("second", term), 1),
        (("left", term, a), 1), (("right", a, term), 2), (("case", term, "x", x, "y", x), 1),
        (("case", x, "x", term, "y", x), 3), (("case", x, "x", x, "y", term), 5), (("cons", term, x), 1),
        (("cons", x, term), 2), (("fold", term, x, x), 1), (("fold", x, term, x), 2), (("fold", x, x, term), 3),
    ]
    return [(whole, (at,), whole[0]) for whole, at in rows]

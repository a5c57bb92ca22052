"""Kinds, terms and values as texts, with the blanks and brackets that are told (point A6)."""

from bykindalone.terms import sorts_of

# By the first text of a kind, or of a term: texts, and the indexes of what stands between them.
KIND_FORMS = {
    "var": (1,),
    "unit": ("unit",),
    "num": ("num",),
    "pair": ("(", 1, ", ", 2, ")"),
    "either": (1, " | ", 2),
    "list": ("list ", 1),
    "fun": (1, " -> ", 2),
}
TERM_FORMS = {
    "name": (1,),
    "fn": ("fn ", 1, ": ", 2, ". ", 3),
    "call": (1, "(", 2, ")"),
    "let": ("let ", 1, " = ", 2, " in ", 3),
    "unit": ("()",),
    "number": (1,),
    "plus": (1, " + ", 2),
    "times": (1, " * ", 2),
    "minus": ("-", 1),
    "is": (2, " ", 1, " ", 3),
    "pair": ("(", 1, ", ", 2, ")"),
    "first": ("first(", 1, ")"),
    "second": ("second(", 1, ")"),
    "left": ("left(", 1, ", ", 2, ")"),
    "right": ("right(", 1, ", ", 2, ")"),
    "case": ("case ", 1, " {", 2, ". ", 3, "; ", 4, ". ", 5, "}"),
    "nil": ("nil(", 1, ")"),
    "cons": ("cons(", 1, ", ", 2, ")"),
    "fold": ("fold(", 1, ", ", 2, ", ", 3, ")"),
}
# By the first text of a kind, or of a term, and an index in it: what stands in brackets there.
KINDS_IN_BRACKETS = {
    ("fun", 1): ("fun",),
    ("either", 1): ("fun",),
    ("either", 2): ("fun", "either"),
    ("list", 1): ("fun", "either"),
}
TERMS_IN_BRACKETS = {
    ("plus", 1): ("fn", "let", "is"),
    ("plus", 2): ("fn", "let", "is", "plus"),
    ("times", 1): ("fn", "let", "is", "plus"),
    ("times", 2): ("fn", "let", "is", "plus", "times"),
    ("is", 2): ("fn", "let", "is"),
    ("is", 3): ("fn", "let", "is"),
    ("minus", 1): ("fn", "let", "is", "plus", "times"),
    ("call", 1): ("fn", "let", "is", "plus", "times", "minus"),
}


def text_of(sort, thing):
    """The text of a thing, which is a "kind", a "term", or as a "value" a pair of a kind and a value of it."""
    told = []
    # The pieces wait in a list, the next one last, so deep things ask for no recursion.
    waiting = [(sort, thing)]
    while waiting:
        piece = waiting.pop()
        if piece[0] == "text":
            told.append(piece[1])
        else:
            waiting.extend(_pieces_of(piece[0], piece[1])[::-1])
    return "".join(told)


def _pieces_of(sort, thing):
    """The pieces of a thing's text in a row, as pairs of a sort and a thing: a text, or what has one itself."""
    if sort == "kind":
        return _pieces_of_kind(thing)
    if sort == "term":
        return _pieces_of_term(thing)
    return _pieces_of_value(thing[0], thing[1])


def _pieces_of_kind(kind):
    pieces = []
    for piece in KIND_FORMS[kind[0]]:
        if isinstance(piece, str):
            pieces.append(("text", piece))
        elif kind[0] == "var":
            pieces.append(("text", kind[piece]))
        else:
            inner = kind[piece]
            pieces.extend(_set_in("kind", inner, inner[0] in KINDS_IN_BRACKETS.get((kind[0], piece), ())))
    return pieces


def _pieces_of_term(term):
    sorts = sorts_of(term)
    pieces = []
    for piece in TERM_FORMS[term[0]]:
        if isinstance(piece, str):
            pieces.append(("text", piece))
        elif sorts[piece - 1] == "term":
            pieces.extend(_set_in("term", term[piece], _is_in_brackets(term, piece)))
        elif sorts[piece - 1] == "kind":
            pieces.append(("kind", term[piece]))
        else:
            pieces.append(("text", str(term[piece])))
    return pieces


def _is_in_brackets(term, at):
    """Whether the term's part at the index stands in brackets."""
    part = term[at]
    if part[0] in TERMS_IN_BRACKETS.get((term[0], at), ()):
        return True
    # Directly behind "-" a figure would make a number of it.
    return term[0] == "minus" and _has_figure_first(part)


def _has_figure_first(term):
    while term[0] == "call":
        term = term[1]
    return term[0] == "number" and term[1] >= 0


def _set_in(sort, thing, in_brackets):
    """The pieces of a thing that stands within another one."""
    if in_brackets:
        return [("text", "("), (sort, thing), ("text", ")")]
    return [(sort, thing)]


def _pieces_of_value(kind, value):
    word = kind[0]
    if word == "unit":
        return [("text", "()")]
    if word == "num":
        return [("text", str(value))]
    if word == "either":
        inner = kind[1] if value[0] == "left" else kind[2]
        return [("text", value[0] + "("), ("value", (inner, value[1])), ("text", ")")]
    if word == "pair":
        return _in_a_row("(", [("value", (kind[1], value[1])), ("value", (kind[2], value[2]))], ")")
    return _in_a_row("[", [("value", (kind[1], thing)) for thing in value], "]")


def _in_a_row(ahead, rows, behind):
    """The pieces with commas between them, and with what stands ahead of and behind them all."""
    pieces = [("text", ahead)]
    for at, piece in enumerate(rows):
        if at > 0:
            pieces.append(("text", ", "))
        pieces.append(piece)
    pieces.append(("text", behind))
    return pieces

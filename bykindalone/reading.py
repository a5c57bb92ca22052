"""Reading texts by their forms (point A5)."""

from bykindalone.errors import InvalidText
from bykindalone.kinds import VARIABLES
from bykindalone.tokens import place_of, tokens_of

# By a form and the sort of the next token, "" for any other one: the symbols that stand for the form then.
# A symbol is a form, a token, or ("make", HEAD, MANY): what is made of HEAD and of as many things read last.
# A form without a symbol for a token takes none of it; so each text is refused at the first token that is wrong.
RULES = {
    ("KIND", ""): ("EITHER", "KIND REST"),
    ("KIND REST", "->"): ("->", "KIND", ("make", ("fun",), 2)),
    ("KIND REST", ""): (),
    ("EITHER", ""): ("SINGLE", "EITHER REST"),
    ("EITHER REST", "|"): ("|", "SINGLE", ("make", ("either",), 2), "EITHER REST"),
    ("EITHER REST", ""): (),
    ("SINGLE", "unit"): ("unit", ("make", ("unit",), 0)),
    ("SINGLE", "num"): ("num", ("make", ("num",), 0)),
    ("SINGLE", "NAME"): ("VARIABLE", ("make", ("var",), 1)),
    ("SINGLE", "list"): ("list", "SINGLE", ("make", ("list",), 1)),
    ("SINGLE", "("): ("(", "KIND", "SINGLE REST", ")"),
    ("SINGLE REST", ","): (",", "KIND", ("make", ("pair",), 2)),
    ("SINGLE REST", ""): (),
    ("TERM", "fn"): ("fn", "NAME", ":", "KIND", ".", "TERM", ("make", ("fn",), 3)),
    ("TERM", "let"): ("let", "NAME", "=", "TERM", "in", "TERM", ("make", ("let",), 3)),
    ("TERM", ""): ("SUM", "TERM REST"),
    ("TERM REST", "<"): ("<", "SUM", ("make", ("is", "<"), 2)),
    ("TERM REST", "<="): ("<=", "SUM", ("make", ("is", "<="), 2)),
    ("TERM REST", "=="): ("==", "SUM", ("make", ("is", "=="), 2)),
    ("TERM REST", ""): (),
    ("SUM", ""): ("PRODUCT", "SUM REST"),
    ("SUM REST", "+"): ("+", "PRODUCT", ("make", ("plus",), 2), "SUM REST"),
    ("SUM REST", ""): (),
    ("PRODUCT", ""): ("SIGNED", "PRODUCT REST"),
    ("PRODUCT REST", "*"): ("*", "SIGNED", ("make", ("times",), 2), "PRODUCT REST"),
    ("PRODUCT REST", ""): (),
    ("SIGNED", "-"): ("-", "SIGNED", ("make", ("minus",), 1)),
    ("SIGNED", ""): ("ATOM", "CALL REST"),
    ("CALL REST", "("): ("(", "TERM", ")", ("make", ("call",), 2), "CALL REST"),
    ("CALL REST", ""): (),
    ("ATOM", "NAME"): ("NAME", ("make", ("name",), 1)),
    ("ATOM", "NUMBER"): ("NUMBER", ("make", ("number",), 1)),
    ("ATOM", "("): ("(", "BRACKET"),
    ("BRACKET", ")"): (")", ("make", ("unit",), 0)),
    ("BRACKET", ""): ("TERM", "BRACKET REST", ")"),
    ("BRACKET REST", ","): (",", "TERM", ("make", ("pair",), 2)),
    ("BRACKET REST", ""): (),
    ("ATOM", "first"): ("first", "(", "TERM", ")", ("make", ("first",), 1)),
    ("ATOM", "second"): ("second", "(", "TERM", ")", ("make", ("second",), 1)),
    ("ATOM", "left"): ("left", "(", "TERM", ",", "KIND", ")", ("make", ("left",), 2)),
    ("ATOM", "right"): ("right", "(", "KIND", ",", "TERM", ")", ("make", ("right",), 2)),
    ("ATOM", "case"): ("case", "TERM", "{", "SIDE", ";", "SIDE", "}", ("make", ("case",), 5)),
    ("SIDE", ""): ("NAME", ".", "TERM"),
    ("ATOM", "nil"): ("nil", "(", "KIND", ")", ("make", ("nil",), 1)),
    ("ATOM", "cons"): ("cons", "(", "TERM", ",", "TERM", ")", ("make", ("cons",), 2)),
    ("ATOM", "fold"): ("fold", "(", "TERM", ",", "TERM", ",", "TERM", ")", ("make", ("fold",), 3)),
}


def read(form, text):
    """What the text tells: form is "KIND", "TERM", or ("value", KIND) for a value of a closed data kind."""
    reader = Reader(text)
    told = reader.take(form)
    reader.take("END")
    return told


class Reader:
    """Reads a text from the left, form by form."""

    def __init__(self, text):
        self.text = text
        self.tokens = tokens_of(text)
        self.at = 0

    def next_sort(self):
        """The sort of the token that is read next."""
        return self.tokens[self.at][0]

    def take(self, form):
        """What the form tells that is due next, which may be a token; None of a word, of a sign, and of "END"."""
        made = []
        # What is still asked for waits in a list, the next one last, so deep texts ask for no recursion.
        waiting = [form]
        while waiting:
            asked = waiting.pop()
            sort, worth, index = self.tokens[self.at]
            symbols = _symbols_for(asked, sort)
            if symbols is not None:
                waiting.extend(symbols[::-1])
            elif isinstance(asked, tuple) and asked[0] == "make":
                _make(made, asked[1], asked[2])
            elif _takes(asked, sort, worth):
                if sort in ("NAME", "NUMBER"):
                    made.append(worth)
                self.at += 1
            else:
                line, column = place_of(self.text, index)
                raise InvalidText(line, column)
        return made[0] if made else None


def _symbols_for(asked, sort):
    """The symbols that stand for what is asked, at a token of the sort; None if it is no form, or takes none of it."""
    if isinstance(asked, str):
        return RULES.get((asked, sort), RULES.get((asked, "")))
    if asked[0] == "value":
        return _symbols_for_value(asked[1], sort)
    if asked[0] == "list":
        if sort == "]":
            return ("]", ("make", (), 0))
        return (("value", asked[1]), ("things", asked[1], 1))
    if asked[0] == "things":
        if sort == ",":
            return (",", ("value", asked[1]), ("things", asked[1], asked[2] + 1))
        return ("]", ("make", (), asked[2]))
    return None


def _symbols_for_value(kind, sort):
    word = kind[0]
    if word == "unit":
        return ("(", ")", ("make", (), 0))
    if word == "num":
        return ("NUMBER",)
    if word == "pair":
        return ("(", ("value", kind[1]), ",", ("value", kind[2]), ")", ("make", ("pair",), 2))
    if word == "list":
        return ("[", ("list", kind[1]))
    if sort == "left":
        return ("left", "(", ("value", kind[1]), ")", ("make", ("left",), 1))
    if sort == "right":
        return ("right", "(", ("value", kind[2]), ")", ("make", ("right",), 1))
    return None


def _takes(asked, sort, worth):
    """Whether what is asked, no form, is a token of this sort and worth."""
    if asked == "VARIABLE":
        return sort == "NAME" and worth in VARIABLES
    return asked == sort


def _make(made, head, many):
    """Puts one thing in the place of as many that were made last: the head with these behind it."""
    start = len(made) - many
    thing = head + tuple(made[start:])
    del made[start:]
    made.append(thing)

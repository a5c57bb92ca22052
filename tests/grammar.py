"""The forms of the document written out as rules, and what they say of a text, told apart from the program.

The rules are looked through by Earley's way: row by row of all rules that may be under way. So it is seen at each
token whether any text of the form goes on with it, whichever way the program reads.
"""

import re

WORDS = "fn let in case unit num list nil cons fold first second left right".split()

FORMS = """
KIND = EITHER / EITHER -> KIND
EITHER = SINGLE / EITHER | SINGLE
SINGLE = unit / num / VAR / list SINGLE / ( KIND ) / ( KIND , KIND )
TERM = fn NAME : KIND . TERM / let NAME = TERM in TERM / SUM / SUM < SUM / SUM <= SUM / SUM == SUM
SUM = PRODUCT / SUM + PRODUCT
PRODUCT = SIGNED / PRODUCT * SIGNED
SIGNED = - SIGNED / CALL
CALL = ATOM / CALL ( TERM )
ATOM = NAME / NUMBER / ( ) / ( TERM ) / ( TERM , TERM ) / first ( TERM ) / second ( TERM )
ATOM = left ( TERM , KIND ) / right ( KIND , TERM ) / case TERM { NAME . TERM ; NAME . TERM }
ATOM = nil ( KIND ) / cons ( TERM , TERM ) / fold ( TERM , TERM , TERM )
VAR = a / b / c
NAME = VAR / OTHER
"""


def rules_of_forms():
    rules = {}
    for line in FORMS.strip().split("\n"):
        form, ways = line.split(" = ", 1)
        rules.setdefault(form, []).extend(tuple(way.split()) for way in ways.split(" / "))
    return rules


def add_value_rules(rules, kind):
    """The name of the form of values of the kind, with its rules put to the others."""
    form = "VALUE " + repr(kind)
    if form in rules:
        return form
    rules[form] = []
    parts = [add_value_rules(rules, part) for part in kind[1:]]
    if kind[0] == "unit":
        rules[form] = [("(", ")")]
    elif kind[0] == "num":
        rules[form] = [("NUMBER",)]
    elif kind[0] == "pair":
        rules[form] = [("(", parts[0], ",", parts[1], ")")]
    elif kind[0] == "either":
        rules[form] = [("left", "(", parts[0], ")"), ("right", "(", parts[1], ")")]
    else:
        rules["ROW " + form] = [(parts[0],), ("ROW " + form, ",", parts[0])]
        rules[form] = [("[", "]"), ("[", "ROW " + form, "]")]
    return form


class Forms:
    """The texts of one form: what goes on, and what is whole."""

    def __init__(self, form, kind=None):
        self.rules = rules_of_forms()
        self.form = form if kind is None else add_value_rules(self.rules, kind)
        self.rows = {(): [self.closed([("START", (self.form,), 0, 0)], [])]}

    def closed(self, items, rows):
        """A row with all that follows from it; an item is a form, a way of it, how far it is, and since which row."""
        row = dict.fromkeys(items)
        waiting = list(items)
        here = len(rows)
        while waiting:
            form, way, at, since = waiting.pop()
            if at < len(way):
                new = [(way[at], other, 0, here) for other in self.rules.get(way[at], [])]
            else:
                # No way is empty, so what is whole here was begun in a row ahead.
                new = [
                    (upper, whole, far + 1, start) for upper, whole, far, start in rows[since]
                    if far < len(whole) and whole[far] == form
                ]
            for item in new:
                if item not in row:
                    row[item] = None
                    waiting.append(item)
        return list(row)

    def rows_behind(self, sorts):
        """The rows behind as many tokens; None if no text of the form goes on so."""
        sorts = tuple(sorts)
        if sorts not in self.rows:
            rows = self.rows_behind(sorts[:-1])
            found = None
            if rows is not None:
                moved = [
                    (form, way, at + 1, since) for form, way, at, since in rows[-1]
                    if at < len(way) and way[at] == sorts[-1]
                ]
                found = rows + [self.closed(moved, rows)] if moved else None
            self.rows[sorts] = found
        return self.rows[sorts]

    def is_whole(self, sorts):
        rows = self.rows_behind(sorts)
        return rows is not None and any(form == "START" and at == 1 for form, way, at, since in rows[-1])

    def refused_at(self, text):
        """The line and the column at which the text is refused; None if it is one of the form."""
        tokens, bad = tokens_of(text)
        sorts = [sort_of(told) for told, _ in tokens]
        for many in range(1, len(sorts) + 1):
            if self.rows_behind(sorts[:many]) is None:
                return place_of(text, tokens[many - 1][1])
        if bad is None and self.is_whole(sorts):
            return None
        return place_of(text, len(text) if bad is None else bad)


def sort_of(told):
    if re.fullmatch(r"-?[0-9]+", told):
        return "NUMBER"
    if re.fullmatch(r"[a-z][a-z0-9]*", told) and told not in WORDS and told not in ("a", "b", "c"):
        return "OTHER"
    return told


def tokens_of(text):
    """The pairs of each token and its index, up to the first bad sign; and the index of this one, or None."""
    tokens = []
    at = 0
    while at < len(text):
        gap = re.match(r"(?: |\n|#[^\n]*)+", text[at:])
        if gap:
            at += gap.end()
            continue
        run = re.match(r"[a-z][a-z0-9]*|-?[0-9]+|->|<=|==|[()\[\]{},.:;|+*<=-]", text[at:])
        if not run:
            return tokens, at
        told = run.group()
        bad = bad_in(told, text[at + len(told):at + len(told) + 1])
        if bad is not None:
            return tokens, at + bad
        tokens.append((told, at))
        at += len(told)
    return tokens, None


def bad_in(told, behind):
    """How far the first bad sign is from the first sign of what would be a token; None if it is one."""
    if re.match(r"[a-z]", told):
        return 8 if len(told) > 8 else None
    figures = re.match(r"(-?)([0-9]+)$", told)
    if not figures:
        return None
    ahead = len(figures.group(1))
    if figures.group(2)[0] == "0":
        if ahead:
            return ahead
        if len(told) > 1:
            return 1
    if len(figures.group(2)) > 400:
        return ahead + 400
    return len(told) if re.match(r"[a-z]", behind) else None


def place_of(text, index):
    """The line and the column of the sign at the index, told by going from sign to sign."""
    line, column = 1, 1
    for sign in text[:index]:
        line, column = (line + 1, 1) if sign == "\n" else (line, column + 1)
    return line, column

"""How a text falls into tokens, and which sign of it is a bad one (point A4)."""

from bykindalone.terms import FIGURES, LETTERS, LONGEST_NAME, WORDS

SINGLE_SIGNS = "()[]{},.:;|+*-<="
DOUBLE_SIGNS = ("->", "<=", "==")
MOST_FIGURES = 400


def tokens_of(text):
    """The tokens as triples (SORT, WORTH, INDEX), INDEX being that of the first sign.

    SORT is "NAME" or "NUMBER", WORTH the name or the number; of words and signs both are the token itself.
    The last one is "END" behind the last sign, or "BAD" at the first bad sign, behind which nothing is read.
    """
    found = []
    at = _behind_gap(text, 0)
    while at < len(text):
        end = _end_of_token(text, at)
        bad = _bad_sign(text, at, end)
        if bad is not None:
            found.append(("BAD", None, bad))
            return found
        found.append(_token(text, at, end))
        at = _behind_gap(text, end)
    found.append(("END", None, len(text)))
    return found


def place_of(text, index):
    """The pair of the line and the column of an index, both counted from 1."""
    # An end of a line is the last sign of its line: only what stands behind it is in the next one.
    return (text.count("\n", 0, index) + 1, index - text.rfind("\n", 0, index))


def _behind_gap(text, at):
    """The index behind the blanks, ends of lines and remarks that stand at the index."""
    while at < len(text) and text[at] in " \n#":
        if text[at] == "#":
            end = text.find("\n", at)
            at = len(text) if end < 0 else end
        else:
            at += 1
    return at


def _end_of_token(text, at):
    """The index behind the longest token at the index, whether a bad sign is in it or not."""
    if text[at] in LETTERS:
        return _end_of_run(text, at, LETTERS + FIGURES)
    if _begins_number(text, at):
        return _end_of_run(text, at + 1, FIGURES)
    return at + 2 if text[at:at + 2] in DOUBLE_SIGNS else at + 1


def _end_of_run(text, at, signs):
    while at < len(text) and text[at] in signs:
        at += 1
    return at


def _begins_number(text, at):
    first = at + 1 if text[at] == "-" else at
    return first < len(text) and text[first] in FIGURES


def _bad_sign(text, at, end):
    """The index of the first bad sign in or directly behind the token from one index up to the other; None."""
    if text[at] in LETTERS:
        return at + LONGEST_NAME if end - at > LONGEST_NAME else None
    if _begins_number(text, at):
        return _bad_sign_of_number(text, at, end)
    return None if text[at] in SINGLE_SIGNS else at


def _bad_sign_of_number(text, at, end):
    first = at + 1 if text[at] == "-" else at
    if text[first] == "0" and first > at:
        return first
    if text[first] == "0" and end - first > 1:
        return first + 1
    if end - first > MOST_FIGURES:
        return first + MOST_FIGURES
    if end < len(text) and text[end] in LETTERS:
        return end
    return None


def _token(text, at, end):
    told = text[at:end]
    if _begins_number(text, at):
        return ("NUMBER", int(told), at)
    if told[0] in LETTERS and told not in WORDS:
        return ("NAME", told, at)
    return (told, told, at)

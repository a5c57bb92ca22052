"""The kinds of terms in contexts, and kinds with others put in for their variables (points A1 and B1)."""

from bykindalone.errors import InvalidContext, InvalidFilling, InvalidKind, WrongTerm
from bykindalone.kinds import TRUTH, VARIABLES, is_closed_kind, is_data_kind, is_kind, is_text_of
from bykindalone.terms import check_term, is_name

MOST_NAMES = 40
NUM = ("num",)


def filled(kind, filling):
    """The kind with what the filling tells in the place of variables; other variables stay."""
    if not is_kind(kind):
        raise InvalidKind(kind)
    check_filling(filling)
    return _put_in(kind, {var: told for var, told in filling})


def check_filling(filling):
    """Refuses what is no filling, at what is wrong first."""
    if not isinstance(filling, tuple):
        raise InvalidFilling(None)
    last = ""
    for index, pair in enumerate(filling):
        if not _fills_a_variable(pair) or pair[0] <= last:
            raise InvalidFilling(index)
        last = pair[0]


def _fills_a_variable(value):
    if not isinstance(value, tuple) or len(value) != 2 or not is_text_of(value[0], VARIABLES):
        return False
    return is_data_kind(value[1]) and is_closed_kind(value[1])


def _put_in(kind, told):
    if kind[0] == "var":
        return told.get(kind[1], kind)
    return (kind[0],) + tuple([_put_in(part, told) for part in kind[1:]])


def kind_of(context, term):
    """The kind of the term in the context."""
    _check_context(context)
    check_term(term)
    return _kind_found({name: kind for name, kind in context}, term, ())


def _check_context(context):
    if not isinstance(context, tuple) or len(context) > MOST_NAMES:
        raise InvalidContext(None)
    for index, pair in enumerate(context):
        if not isinstance(pair, tuple) or len(pair) != 2 or not is_name(pair[0]) or not is_kind(pair[1]):
            raise InvalidContext(index)


# Each row below finds the kind of a term: names is a dict of the kinds of the names that the term sees,
# path is where the term stands in the whole. A row finds the kinds of all parts ahead of what it asks of them
# itself: so what is wrong first is met first.


def _row_of_name(names, term, path):
    if term[1] not in names:
        raise WrongTerm(path)
    return names[term[1]]


def _row_of_fn(names, term, path):
    return ("fun", term[2], _part_kind({**names, term[1]: term[2]}, term, path, 3))


def _row_of_call(names, term, path):
    function = _part_kind(names, term, path, 1)
    argument = _part_kind(names, term, path, 2)
    _ask(function[0] == "fun", path, 1)
    _ask(argument == function[1], path, 2)
    return function[2]


def _row_of_let(names, term, path):
    told = _part_kind(names, term, path, 2)
    return _part_kind({**names, term[1]: told}, term, path, 3)


def _row_of_unit(names, term, path):
    return ("unit",)


def _row_of_number(names, term, path):
    return NUM


def _row_of_reckoning(names, term, path):
    one = _part_kind(names, term, path, 1)
    two = _part_kind(names, term, path, 2)
    _ask(one == NUM, path, 1)
    _ask(two == NUM, path, 2)
    return NUM


def _row_of_minus(names, term, path):
    _ask(_part_kind(names, term, path, 1) == NUM, path, 1)
    return NUM


def _row_of_is(names, term, path):
    one = _part_kind(names, term, path, 2)
    two = _part_kind(names, term, path, 3)
    _ask(one == NUM, path, 2)
    _ask(two == NUM, path, 3)
    return TRUTH


def _row_of_pair(names, term, path):
    one = _part_kind(names, term, path, 1)
    two = _part_kind(names, term, path, 2)
    return ("pair", one, two)


def _row_of_half(names, term, path):
    pair = _part_kind(names, term, path, 1)
    _ask(pair[0] == "pair", path, 1)
    return pair[1] if term[0] == "first" else pair[2]


def _row_of_left(names, term, path):
    return ("either", _part_kind(names, term, path, 1), term[2])


def _row_of_right(names, term, path):
    return ("either", term[1], _part_kind(names, term, path, 2))


def _row_of_case(names, term, path):
    either = _part_kind(names, term, path, 1)
    # Without the kinds of its sides the parts behind it can't be looked at.
    _ask(either[0] == "either", path, 1)
    left = _part_kind({**names, term[2]: either[1]}, term, path, 3)
    right = _part_kind({**names, term[4]: either[2]}, term, path, 5)
    _ask(left == right, path, 5)
    return left


def _row_of_nil(names, term, path):
    return ("list", term[1])


def _row_of_cons(names, term, path):
    thing = _part_kind(names, term, path, 1)
    things = _part_kind(names, term, path, 2)
    _ask(things == ("list", thing), path, 2)
    return things


def _row_of_fold(names, term, path):
    step = _part_kind(names, term, path, 1)
    start = _part_kind(names, term, path, 2)
    things = _part_kind(names, term, path, 3)
    _ask(step[0] == "fun" and step[2][0] == "fun" and step[2][1] == step[2][2], path, 1)
    _ask(start == step[2][1], path, 2)
    _ask(things == ("list", step[1]), path, 3)
    return start


ROWS = {
    "name": _row_of_name,
    "fn": _row_of_fn,
    "call": _row_of_call,
    "let": _row_of_let,
    "unit": _row_of_unit,
    "number": _row_of_number,
    "plus": _row_of_reckoning,
    "times": _row_of_reckoning,
    "minus": _row_of_minus,
    "is": _row_of_is,
    "pair": _row_of_pair,
    "first": _row_of_half,
    "second": _row_of_half,
    "left": _row_of_left,
    "right": _row_of_right,
    "case": _row_of_case,
    "nil": _row_of_nil,
    "cons": _row_of_cons,
    "fold": _row_of_fold,
}


def _kind_found(names, term, path):
    row = ROWS[term[0]]
    return row(names, term, path)


def _part_kind(names, term, path, at):
    """The kind of the term's part at the index."""
    part = term[at]
    row = ROWS[part[0]]
    return row(names, part, path + (at,))


def _ask(holds, path, at):
    """Refuses the part at the index of the term at the path, unless what is asked of it holds."""
    if not holds:
        raise WrongTerm(path + (at,))

"""Values of closed data kinds, and the order in which they stand (point A2)."""

from bykindalone.errors import InvalidKind, InvalidValue
from bykindalone.kinds import is_closed_kind, is_data_kind, is_text_of


def is_value(kind, value):
    """Whether it is a value of the closed data kind, whatever it is."""
    _check_kind(kind)
    return _stands_under(kind, value)


def order(kind, one, two):
    """-1, 0 or 1 as the first value is ahead of the second one, the same, or behind it."""
    _check_kind(kind)
    for value in (one, two):
        if not _stands_under(kind, value):
            raise InvalidValue(value)
    # Of two values of one kind Python's order of tuples is the one that is told:
    # place by place, the first unlike place telling, what ends ahead of what goes on,
    # and the text "left" ahead of the text "right".
    if one == two:
        return 0
    return -1 if one < two else 1


def is_number(value):
    """Whether it is a whole number, True and False being none, whatever it is."""
    return isinstance(value, int) and not isinstance(value, bool)


def _check_kind(kind):
    if not is_data_kind(kind) or not is_closed_kind(kind):
        raise InvalidKind(kind)


def _stands_under(kind, value):
    """Whether it is a value of what is known to be a closed data kind."""
    # The parts wait in a list, so that deep kinds and long lists ask for no recursion.
    waiting = [(kind, value)]
    while waiting:
        asked, part = waiting.pop()
        if not _has_form(asked, part):
            return False
        waiting.extend(_parts_below(asked, part))
    return True


def _has_form(kind, value):
    """Whether it is a value of the kind as far as can be seen without looking into its parts."""
    word = kind[0]
    if word == "num":
        return is_number(value)
    if not isinstance(value, tuple):
        return False
    if word == "unit":
        return len(value) == 0
    if word == "pair":
        return len(value) == 3 and is_text_of(value[0], ("pair",))
    if word == "either":
        return len(value) == 2 and is_text_of(value[0], ("left", "right"))
    return True


def _parts_below(kind, value):
    """The pairs of a kind and what has to be a value of it, for the parts of what has the kind's form."""
    word = kind[0]
    if word == "pair":
        return [(kind[1], value[1]), (kind[2], value[2])]
    if word == "either":
        return [(kind[1] if value[0] == "left" else kind[2], value[1])]
    if word == "list":
        return [(kind[1], thing) for thing in value]
    return []

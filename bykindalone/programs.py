"""Programs, their arguments, and things of closed kinds (points B3 and C1)."""

from bykindalone.errors import InvalidArguments, KindError, NotData, WrongTerm
from bykindalone.kinding import check_filling, filled, kind_of
from bykindalone.kinds import is_closed_kind, is_data_kind
from bykindalone.terms import check_written, is_written
from bykindalone.values import is_value


def kind_of_program(program):
    """The kind of the program; refuses what is no term as written, or has no kind."""
    check_written(program)
    return kind_of((), program)


def kind_if_any(term):
    """The kind of the term by itself; None if it has none."""
    try:
        return kind_of((), term)
    except WrongTerm:
        return None


def asked_and_told(kind):
    """The pair of a tuple of the arguments' kinds, none where the kind is of no function, and of what is left."""
    asked = []
    while kind[0] == "fun":
        asked.append(kind[1])
        kind = kind[2]
    return tuple(asked), kind


def is_thing(kind, value):
    """Whether it is a thing of the closed kind, whatever it is."""
    if is_data_kind(kind):
        return is_value(kind, value)
    return is_written(value) and kind_if_any(value) == kind


def left_behind(kind, filling, arguments):
    """What is left of the kind, filled, behind the arguments; refuses the first that is none of its kind."""
    if not isinstance(arguments, tuple):
        raise InvalidArguments(None)
    left = filled(kind, filling)
    for index, argument in enumerate(arguments):
        if left[0] != "fun" or not is_closed_kind(left[1]) or not is_thing(left[1], argument):
            raise InvalidArguments(index)
        left = left[2]
    return left


def check_told(kind, filling, arguments):
    """What is left of the kind, filled, behind the arguments; refuses arguments, then what is no closed data kind."""
    left = left_behind(kind, filling, arguments)
    if not is_data_kind(left) or not is_closed_kind(left):
        raise NotData(left)
    return left


def is_run(kind, value):
    """Whether it is a run for programs of the kind, whatever it is."""
    if not isinstance(value, tuple) or len(value) != 3:
        return False
    filling, arguments, answer = value
    try:
        check_filling(filling)
        left = check_told(kind, filling, arguments)
    except KindError:
        return False
    return is_value(left, answer)

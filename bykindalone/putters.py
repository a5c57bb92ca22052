"""Programs that put lists in order by a putter of pairs, asked at noughts and ones (point D5)."""

from bykindalone.errors import InvalidNumber, InvalidNumbers, NotPutting
from bykindalone.kinds import VARIABLES
from bykindalone.meaning import called_with, meaning_of
from bykindalone.programs import kind_of_program
from bykindalone.values import is_number

MOST_NUMBERS = 40
MOST_IN_ORDER = 10


def put_by(program, numbers):
    """What the program tells of the numbers with the putter."""
    check_putting(program)
    if not isinstance(numbers, tuple) or len(numbers) > MOST_NUMBERS:
        raise InvalidNumbers(None)
    for index, number in enumerate(numbers):
        if not is_number(number):
            raise InvalidNumbers(index)
    return _put(meaning_of(program), numbers)


def puts_in_order(program, length):
    """Whether the program puts all lists of this length in order."""
    return out_of_order(program, length) is None


def out_of_order(program, length):
    """The first list of as many noughts and ones that the program does not put in order; None."""
    check_putting(program)
    check_length(length)
    value = meaning_of(program)
    for number in range(1 << length):
        numbers = tuple([number >> at & 1 for at in range(length - 1, -1, -1)])
        if _put(value, numbers) != tuple(sorted(numbers)):
            return numbers
    return None


def is_length(value):
    """Whether it is a length that is asked for, whatever it is."""
    return is_number(value) and 0 <= value <= MOST_IN_ORDER


def is_putting_kind(kind):
    """Whether programs of the kind are given a putter."""
    return any([kind == _putting_kind(("var", var)) for var in VARIABLES])


def check_length(length):
    """Refuses what is no length that is asked for."""
    if not is_length(length):
        raise InvalidNumber(length)


def check_putting(program):
    """Refuses what is no program that is given a putter."""
    kind = kind_of_program(program)
    if not is_putting_kind(kind):
        raise NotPutting(kind)


def _putting_kind(thing):
    pair, row = ("pair", thing, thing), ("list", thing)
    return ("fun", ("fun", pair, pair), ("fun", row, row))


def _put(value, numbers):
    return called_with(value, [_putter, numbers])


def _putter(pair):
    _, one, two = pair
    return pair if one <= two else ("pair", two, one)

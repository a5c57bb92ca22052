"""Things at the places of variables in values of data kinds, and shapes of arguments (points D1 and D4)."""

from bykindalone.errors import InvalidShape
from bykindalone.kinding import filled
from bykindalone.kinds import TRUTH, VARIABLES, is_data_kind, is_text_of, variables_of
from bykindalone.programs import asked_and_told
from bykindalone.values import is_number, is_value

MOST_ARGUMENTS = 6
ALL_UNIT = (("a", ("unit",)), ("b", ("unit",)), ("c", ("unit",)))
ALL_NUM = (("a", ("num",)), ("b", ("num",)), ("c", ("num",)))


def is_first_kind(kind):
    """Whether the kind is first."""
    asked, told = asked_and_told(kind)
    return 1 <= len(asked) <= MOST_ARGUMENTS and all([is_data_kind(part) for part in asked + (told,)])


def is_tested_kind(kind):
    """Whether the kind is tested."""
    asked, told = asked_and_told(kind)
    if not 1 <= len(asked) <= MOST_ARGUMENTS or not is_data_kind(told):
        return False
    return all([is_data_kind(part) or is_test(part) for part in asked])


def is_test(kind):
    """Whether the kind is that of a test of one thing or of two."""
    if kind[0] != "fun" or kind[1][0] != "var":
        return False
    told = kind[2]
    return told == TRUTH or (told[0] == "fun" and told[1][0] == "var" and told[2] == TRUTH)


def tested_variables(kind):
    """The tuple of the variables of the one thing, or of the two things, that a test of the kind asks."""
    asked, _ = asked_and_told(kind)
    return tuple([part[1] for part in asked])


def with_things(kind, value, change):
    """The value of the data kind with change(VAR, THING) in the place of each thing, asked for in the things' order."""
    word = kind[0]
    if word == "var":
        return change(kind[1], value)
    if word == "pair":
        first = with_things(kind[1], value[1], change)
        return ("pair", first, with_things(kind[2], value[2], change))
    if word == "either":
        part = kind[1] if value[0] == "left" else kind[2]
        return (value[0], with_things(part, value[1], change))
    if word == "list":
        return tuple([with_things(kind[1], thing, change) for thing in value])
    return value


def things_in(kind, value):
    """The list of pairs of a variable and a thing that stands at one of its places, in order."""
    found = []

    def kept(var, thing):
        found.append((var, thing))
        return thing

    with_things(kind, value, kept)
    return found


def shape_in(kind, value):
    """The value of the data kind with () in the place of each thing."""
    return with_things(kind, value, lambda var, thing: ())


def is_shape(kind, value):
    """Whether it is the shape of an argument of the kind, which is of data or a test's, whatever it is."""
    if is_data_kind(kind):
        return is_value(filled(kind, ALL_UNIT), value)
    if not isinstance(value, tuple) or len(value) != 2 or not is_text_of(value[0], ("test",)):
        return False
    return is_number(value[1]) and value[1] == len(tested_variables(kind))


def check_shape(kind, shape):
    """Refuses what is no shape of arguments for a program of the kind."""
    asked, _ = asked_and_told(kind)
    if not isinstance(shape, tuple) or len(shape) != len(asked):
        raise InvalidShape(None)
    for index, part in enumerate(asked):
        if not is_shape(part, shape[index]):
            raise InvalidShape(index)


def places_by_variable(kind, shape):
    """A dict of how many places each of the three variables has in the arguments of data kinds."""
    counts = {var: 0 for var in VARIABLES}
    for part, value in data_arguments(kind, shape):
        for var, _ in things_in(part, value):
            counts[var] += 1
    return counts


def data_variables(kind):
    """The ascending tuple of the variables in the kinds of the arguments that are data."""
    asked, _ = asked_and_told(kind)
    return tuple(sorted({var for part in asked if is_data_kind(part) for var in variables_of(part)}))


def data_arguments(kind, arguments):
    """The list of pairs of an argument's kind and the argument, for those of data kinds."""
    asked, _ = asked_and_told(kind)
    return [(part, value) for part, value in zip(asked, arguments) if is_data_kind(part)]


def marks_by_variable(kind, shape):
    """A dict of the marks of each variable, in the order of its places."""
    counts = places_by_variable(kind, shape)
    return {var: tuple(range(counts[var])) for var in counts}


def laid_by(kind, shape, things):
    """The arguments of the shape, at the places of each variable its things, in order; tests stay as they stand."""
    asked, _ = asked_and_told(kind)
    waiting = {var: list(things[var][::-1]) for var in things}

    def taken(var, thing):
        return waiting[var].pop()

    found = []
    for part, value in zip(asked, shape):
        found.append(with_things(part, value, taken) if is_data_kind(part) else value)
    return tuple(found)


def marked_by(kind, shape):
    """The marked arguments of the shape, tests as they stand in it."""
    return laid_by(kind, shape, marks_by_variable(kind, shape))

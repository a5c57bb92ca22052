"""One test at marks, which tells all that a program of a first kind does (points D1, D2 and D3)."""

from bykindalone.errors import InvalidArguments, InvalidFilling, InvalidKind, InvalidTable, InvalidThings, InvalidValue
from bykindalone.errors import NotFirst, UnlikeKinds
from bykindalone.kinding import check_filling, filled
from bykindalone.kinds import is_data_kind, is_kind, is_text_of, variables_of
from bykindalone.meaning import told_of_things
from bykindalone.programs import asked_and_told, kind_of_program, left_behind
from bykindalone.shapes import ALL_NUM, ALL_UNIT, check_shape, data_arguments, data_variables, is_first_kind
from bykindalone.shapes import is_tested_kind, laid_by, marked_by, places_by_variable, shape_in, things_in, with_things
from bykindalone.values import is_value


def is_first(kind):
    """Whether the kind is first: of one to six arguments, they and what is told being data."""
    _check_kind(kind)
    return is_first_kind(kind)


def is_tested(kind):
    """Whether the kind is tested: first, or it would be but for arguments that are tests."""
    _check_kind(kind)
    return is_tested_kind(kind)


def places(kind, value):
    """The pairs of a variable of the data kind and how many places it has in the value, which is filled with unit."""
    if not is_data_kind(kind):
        raise InvalidKind(kind)
    if not is_value(filled(kind, ALL_UNIT), value):
        raise InvalidValue(value)
    found = [var for var, _ in things_in(kind, value)]
    return tuple([(var, found.count(var)) for var in variables_of(kind)])


def shape_of(program, filling, arguments):
    """The shape of the arguments, which are all that the program asks for."""
    kind = _first_kind_of(program)
    check_filling(filling)
    asked, _ = asked_and_told(kind)
    if not isinstance(arguments, tuple) or len(arguments) < len(asked):
        raise InvalidArguments(None)
    left_behind(kind, filling, arguments)
    return tuple([shape_in(part, value) for part, value in data_arguments(kind, arguments)])


def marked(program, shape):
    """The marked arguments of the shape."""
    return marked_by(_kind_at_shape(program, shape), shape)


def laid(program, shape, filling, things):
    """The arguments of the shape with these things at their places."""
    kind = _kind_at_shape(program, shape)
    check_laying(kind, shape, filling, things)
    return laid_by(kind, shape, {var: row for var, row in things})


def table_of(program, shape):
    """What the program tells of the marked arguments of the shape."""
    kind = _kind_at_shape(program, shape)
    return told_of_things(kind, program, marked_by(kind, shape))


def by_table(program, shape, table, filling, things):
    """The table with the things in the marks' places."""
    kind = _kind_at_shape(program, shape)
    check_table(kind, shape, table)
    check_laying(kind, shape, filling, things)
    return with_marked_things(kind, table, things)


def alike_at(one, two, shape):
    """Whether both programs have the same table at the shape."""
    kind = _first_kind_of(one)
    other = _first_kind_of(two)
    check_shape(kind, shape)
    if kind != other:
        raise UnlikeKinds()
    at_marks = marked_by(kind, shape)
    return told_of_things(kind, one, at_marks) == told_of_things(kind, two, at_marks)


def check_table(kind, shape, table):
    """Refuses what is no answer of the kind with marks at its places that the arguments have."""
    _, told = asked_and_told(kind)
    if not is_value(filled(told, ALL_NUM), table):
        raise InvalidTable(table)
    counts = places_by_variable(kind, shape)
    if not all([0 <= mark < counts[var] for var, mark in things_in(told, table)]):
        raise InvalidTable(table)


def check_laying(kind, shape, filling, things):
    """Refuses what does not fill all variables of the kind, then what are no things for the places of the shape."""
    check_filling(filling)
    told = {var: part for var, part in filling}
    if not all([var in told for var in variables_of(kind)]):
        raise InvalidFilling(None)
    asked = data_variables(kind)
    if not isinstance(things, tuple) or len(things) != len(asked):
        raise InvalidThings(None)
    counts = places_by_variable(kind, shape)
    for index, var in enumerate(asked):
        if not _are_things_of(var, told[var], counts[var], things[index]):
            raise InvalidThings(index)


def with_marked_things(kind, table, things):
    """The answer that the table of a program of the kind tells of these things."""
    _, told = asked_and_told(kind)
    rows = {var: row for var, row in things}
    return with_things(told, table, lambda var, mark: rows[var][mark])


def _check_kind(kind):
    if not is_kind(kind):
        raise InvalidKind(kind)


def _first_kind_of(program):
    kind = kind_of_program(program)
    if not is_first_kind(kind):
        raise NotFirst(kind)
    return kind


def _kind_at_shape(program, shape):
    """The first kind of the program, the shape being one for it."""
    kind = _first_kind_of(program)
    check_shape(kind, shape)
    return kind


def _are_things_of(var, kind, many, value):
    """Whether it is a pair of the variable and of as many values of the kind, whatever it is."""
    if not isinstance(value, tuple) or len(value) != 2 or not is_text_of(value[0], (var,)):
        return False
    if not isinstance(value[1], tuple) or len(value[1]) != many:
        return False
    return all([is_value(kind, thing) for thing in value[1]])

"""Claims with papers that the checker takes (points E1 and E2)."""

from bykindalone.answers import parting_answers
from bykindalone.checker import accepts
from bykindalone.errors import InvalidKind, InvalidRuns, NotTested
from bykindalone.kinds import is_kind, variables_of
from bykindalone.marks import alike_at, table_of
from bykindalone.meaning import told
from bykindalone.programs import asked_and_told, is_run, kind_if_any, kind_of_program
from bykindalone.putters import out_of_order
from bykindalone.relations import check_rows, way_apart
from bykindalone.shapes import data_arguments, data_variables, is_tested_kind, marks_by_variable, shape_in, things_in
from bykindalone.terms import check_written
from bykindalone.ways import ascending, pairs_by_variable


def certify_kind(term):
    """That the term has its kind, or that it has none."""
    check_written(term)
    kind = kind_if_any(term)
    return (("no kind", term) if kind is None else ("kind", term, kind)), ()


def certify_told(program, filling, arguments):
    """That the program tells what it tells."""
    return ("tells", program, (filling, arguments, told(program, filling, arguments))), ()


def certify_table(program, shape):
    """That the program has its table at the shape."""
    return ("table", program, shape, table_of(program, shape)), ()


def certify_alike(one, two, shape):
    """That both programs are alike at the shape; or unlike, as the marks show."""
    if alike_at(one, two, shape):
        return ("alike", one, two, shape), ()
    kind = kind_of_program(one)
    marks = marks_by_variable(kind, shape)
    filling = tuple([(var, ("num",)) for var in variables_of(kind)])
    return ("unlike", one, two, shape), (filling, tuple([(var, marks[var]) for var in data_variables(kind)]))


def certify_tests(one, two, shape):
    """That both programs are alike at the shape, whatever the tests; or unlike, as the first answers show."""
    answers = parting_answers(one, two, shape)
    if answers is None:
        return ("tested alike", one, two, shape), ()
    return ("tested unlike", one, two, shape), answers


def certify_order(program, length):
    """That the program puts all lists of the length in order; or not, as the first list shows."""
    numbers = out_of_order(program, length)
    if numbers is None:
        return ("in order", program, length), ()
    return ("out of order", program, length), numbers


def certify_related(kind, relation, one, two):
    """That both things are related; or not, as the first way shows."""
    way = way_apart(kind, relation, one, two)
    if way is None:
        return ("related", kind, relation, one, two), ()
    return ("not related", kind, relation, one, two), way


def certify_none(kind, runs):
    """That no program of the kind tells the runs, as the relation of the places shows; None if it shows nothing."""
    if not is_kind(kind):
        raise InvalidKind(kind)
    if not is_tested_kind(kind):
        raise NotTested(kind)
    _check_runs(kind, runs)
    first, last = runs[0], runs[-1]
    if _data_shapes(kind, first[1]) != _data_shapes(kind, last[1]):
        return None
    relation = _relation_of_places(kind, first, last)
    asked, _ = asked_and_told(kind)
    for part in asked:
        check_rows(part, pairs_by_variable(relation))
    claim = ("none tells", kind, runs)
    return (claim, relation) if accepts(claim, relation) else None


def _check_runs(kind, runs):
    if not isinstance(runs, tuple) or len(runs) not in (1, 2):
        raise InvalidRuns(None)
    for index, run in enumerate(runs):
        if not is_run(kind, run):
            raise InvalidRuns(index)


def _data_shapes(kind, arguments):
    """The shapes of the arguments of data kinds."""
    return [shape_in(part, value) for part, value in data_arguments(kind, arguments)]


def _relation_of_places(kind, first, last):
    """The relation in which the things at the same places of the arguments of two runs are the PAIRS."""
    places = list(zip(_things_at_places(kind, first[1]), _things_at_places(kind, last[1])))
    ones, twos = {var: put for var, put in first[0]}, {var: put for var, put in last[0]}
    found = []
    for var in variables_of(kind):
        pairs = [(one, two) for (place, one), (_, two) in places if place == var]
        found.append((var, ones[var], twos[var], ascending(pairs)))
    return tuple(found)


def _things_at_places(kind, arguments):
    """The list of pairs of a variable and a thing at one of its places, from argument to argument."""
    return [spot for part, value in data_arguments(kind, arguments) for spot in things_in(part, value)]

"""The checker: whether a claim is shown by its paper (points E1 and E2)."""

from bykindalone.answers import check_tested, tested_alike, tested_answer
from bykindalone.errors import KindError
from bykindalone.kinding import filled
from bykindalone.kinds import is_kind, variables_of
from bykindalone.marks import alike_at, by_table, check_table, laid, table_of
from bykindalone.meaning import meant_by, told, told_of_things
from bykindalone.programs import asked_and_told, check_told, is_run, kind_if_any, kind_of_program
from bykindalone.promises import promise_of
from bykindalone.putters import check_length, put_by, puts_in_order
from bykindalone.relations import are_related, both_told, check_related_arguments, check_things, fillings, turned
from bykindalone.terms import is_written
from bykindalone.values import is_number, is_value
from bykindalone.ways import first_way, leads_apart, pairs_by_variable


def accepts(claim, paper):
    """Whether it is a claim, and the paper one that shows it, whatever both are."""
    if not isinstance(claim, tuple) or len(claim) == 0 or not isinstance(claim[0], str):
        return False
    if claim[0] not in ROWS or len(claim) != LENGTHS[claim[0]]:
        return False
    row = ROWS[claim[0]]
    try:
        return row(claim, paper)
    except KindError:
        # An element, or the paper, is not what it has to be for a function that is asked.
        return False


def _is_kind_claim(claim, paper):
    _, term, kind = claim
    return _is_nothing(paper) and is_written(term) and is_kind(kind) and kind_if_any(term) == kind


def _is_no_kind_claim(claim, paper):
    return _is_nothing(paper) and is_written(claim[1]) and kind_if_any(claim[1]) is None


def _is_telling(claim, paper):
    return _is_nothing(paper) and _tells(claim[1], kind_of_program(claim[1]), (claim[2],))


def _is_not_telling(claim, paper):
    _, program, run = claim
    kind = kind_of_program(program)
    return _is_nothing(paper) and is_run(kind, run) and not _tells(program, kind, (run,))


def _is_told_by_some(claim, paper):
    _, kind, runs = claim
    return _are_runs(kind, runs) and kind_of_program(paper) == kind and _tells(paper, kind, runs)


def _is_told_by_none(claim, paper):
    _, kind, runs = claim
    if not _are_runs(kind, runs):
        return False
    first, last = runs[0], runs[-1]
    ones, twos = fillings(paper)
    for var in variables_of(kind):
        if _put_for(var, ones) != _put_for(var, first[0]) or _put_for(var, twos) != _put_for(var, last[0]):
            return False
    check_related_arguments(kind, paper, first[1], last[1])
    _, left = asked_and_told(kind)
    return first_way(left, pairs_by_variable(paper), first[2], last[2]) is not None


def _is_table(claim, paper):
    _, program, shape, table = claim
    found = table_of(program, shape)
    check_table(kind_of_program(program), shape, table)
    return _is_nothing(paper) and found == table


def _is_no_table(claim, paper):
    _, program, shape, table = claim
    if not _is_pair(paper):
        return False
    filling, things = paper
    answer = by_table(program, shape, table, filling, things)
    return told(program, filling, laid(program, shape, filling, things)) != answer


def _are_alike(claim, paper):
    return _is_nothing(paper) and alike_at(claim[1], claim[2], claim[3])


def _are_unlike(claim, paper):
    _, one, two, shape = claim
    # This is asked for its errors alone: whether both are unlike, the paper shows.
    alike_at(one, two, shape)
    if not _is_pair(paper):
        return False
    filling, things = paper
    arguments = laid(one, shape, filling, things)
    return told(one, filling, arguments) != told(two, filling, arguments)


def _are_tested_alike(claim, paper):
    return _is_nothing(paper) and tested_alike(claim[1], claim[2], claim[3])


def _are_tested_unlike(claim, paper):
    _, one, two, shape = claim
    check_tested(one, two, shape)
    return tested_answer(one, shape, paper) != tested_answer(two, shape, paper)


def _is_in_order(claim, paper):
    return _is_nothing(paper) and puts_in_order(claim[1], claim[2])


def _is_out_of_order(claim, paper):
    _, program, length = claim
    check_length(length)
    answer = put_by(program, paper)
    return len(paper) == length and answer != tuple(sorted(paper))


def _is_related(claim, paper):
    return _is_nothing(paper) and are_related(claim[1], claim[2], claim[3], claim[4])


def _is_not_related(claim, paper):
    _, kind, relation, one, two = claim
    check_things(kind, relation, one, two)
    return leads_apart(kind, relation, meant_by(kind, one), meant_by(kind, two), paper)


def _is_kept(claim, paper):
    _, program, relation, ones, twos = claim
    one, two = both_told(program, relation, ones, twos)
    _, left = asked_and_told(kind_of_program(program))
    return _is_nothing(paper) and first_way(left, pairs_by_variable(relation), one, two) is None


def _is_turned(claim, paper):
    _, program, turn, ones, answer = claim
    kind = kind_of_program(program)
    asked, left = asked_and_told(kind)
    before, behind = fillings(turn)
    check_told(kind, before, ones)
    # Kinds that are none of data, and what is no turn that tells them, are refused by turned.
    arguments = tuple([turned(part, turn, argument) for part, argument in zip(asked, ones)])
    if not _is_nothing(paper) or len(asked) == 0 or not is_value(filled(left, behind), answer):
        return False
    return told_of_things(kind, program, arguments) == answer


def _is_promise(claim, paper):
    _, kind, promise = claim
    return _is_nothing(paper) and _is_same(promise_of(kind), promise)


LENGTHS = {
    "kind": 3,
    "no kind": 2,
    "tells": 3,
    "tells not": 3,
    "some tells": 3,
    "none tells": 3,
    "table": 4,
    "no table": 4,
    "alike": 4,
    "unlike": 4,
    "tested alike": 4,
    "tested unlike": 4,
    "in order": 3,
    "out of order": 3,
    "related": 5,
    "not related": 5,
    "kept": 5,
    "turned": 5,
    "promise": 3,
}
ROWS = {
    "kind": _is_kind_claim,
    "no kind": _is_no_kind_claim,
    "tells": _is_telling,
    "tells not": _is_not_telling,
    "some tells": _is_told_by_some,
    "none tells": _is_told_by_none,
    "table": _is_table,
    "no table": _is_no_table,
    "alike": _are_alike,
    "unlike": _are_unlike,
    "tested alike": _are_tested_alike,
    "tested unlike": _are_tested_unlike,
    "in order": _is_in_order,
    "out of order": _is_out_of_order,
    "related": _is_related,
    "not related": _is_not_related,
    "kept": _is_kept,
    "turned": _is_turned,
    "promise": _is_promise,
}


def _is_nothing(paper):
    return isinstance(paper, tuple) and len(paper) == 0


def _is_pair(paper):
    return isinstance(paper, tuple) and len(paper) == 2


def _are_runs(kind, runs):
    """Whether they are one or two runs for the kind, whatever both are."""
    if not isinstance(runs, tuple) or len(runs) not in (1, 2):
        return False
    return all([is_run(kind, run) for run in runs])


def _tells(program, kind, runs):
    """Whether all are runs for the kind, and the program of this kind tells their answers."""
    return all([is_run(kind, run) and told_of_things(kind, program, run[1]) == run[2] for run in runs])


def _put_for(var, filling):
    """What the filling puts for the variable; None if it is not filled."""
    for filled_var, kind in filling:
        if filled_var == var:
            return kind
    return None


def _is_same(one, two):
    """Whether it is the promise, or a part of it, whatever it is; True is not the same as 1."""
    if isinstance(one, tuple):
        if not isinstance(two, tuple) or len(two) != len(one):
            return False
        return all([_is_same(part, other) for part, other in zip(one, two)])
    if is_number(one):
        return is_number(two) and two == one
    return isinstance(two, str) and two == one

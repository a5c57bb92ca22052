"""What programs tell: the meaning of a term, by one recursion on it (points B2 and B3)."""

from bykindalone.kinding import check_filling
from bykindalone.kinds import is_data_kind
from bykindalone.programs import asked_and_told, check_told, kind_of_program

YES = ("left", ())
NO = ("right", ())


def told(program, filling, arguments):
    """What the program tells under the filling of the arguments."""
    kind = kind_of_program(program)
    check_filling(filling)
    check_told(kind, filling, arguments)
    return told_of_things(kind, program, arguments)


def told_of_things(kind, program, things):
    """What the program of the kind tells of things that are known to be of its arguments' kinds."""
    asked, _ = asked_and_told(kind)
    return called_with(meaning_of(program), [meant_by(part, thing) for part, thing in zip(asked, things)])


def meant_by(kind, thing):
    """What a thing of the kind, filled, stands for: a value, or what the term means."""
    return thing if is_data_kind(kind) else meaning_of(thing)


def called_with(value, arguments):
    """What a function gives for the arguments, one behind the other."""
    for argument in arguments:
        value = value(argument)
    return value


def meaning_of(term):
    """The meaning of a closed term that has a kind; of a function's kind it is a function of one argument."""
    # No row below asks for a kind, so none asks for the filling.
    run = _run_of((), term)
    return run(())


# Each row below makes of a term a function that tells its meaning: names are the names that the term sees, the
# innermost last, and the function takes a tuple of as many values. So names are looked up once, not in each run.


def _run_of_name(names, term):
    at = len(names) - 1 - names[::-1].index(term[1])
    return lambda held: held[at]


def _run_of_fn(names, term):
    body = _run_of(names + (term[1],), term[3])

    def run(held):
        return lambda value: body(held + (value,))

    return run


def _run_of_call(names, term):
    function, argument = _run_of(names, term[1]), _run_of(names, term[2])

    def run(held):
        action = function(held)
        return action(argument(held))

    return run


def _run_of_let(names, term):
    worth, body = _run_of(names, term[2]), _run_of(names + (term[1],), term[3])
    return lambda held: body(held + (worth(held),))


def _run_of_unit(names, term):
    return lambda held: ()


def _run_of_number(names, term):
    number = term[1]
    return lambda held: number


def _run_of_plus(names, term):
    one, two = _run_of(names, term[1]), _run_of(names, term[2])
    return lambda held: one(held) + two(held)


def _run_of_times(names, term):
    one, two = _run_of(names, term[1]), _run_of(names, term[2])
    return lambda held: one(held) * two(held)


def _run_of_minus(names, term):
    one = _run_of(names, term[1])
    return lambda held: -one(held)


def _run_of_is(names, term):
    one, two = _run_of(names, term[2]), _run_of(names, term[3])
    if term[1] == "<":
        return lambda held: YES if one(held) < two(held) else NO
    if term[1] == "<=":
        return lambda held: YES if one(held) <= two(held) else NO
    return lambda held: YES if one(held) == two(held) else NO


def _run_of_pair(names, term):
    one, two = _run_of(names, term[1]), _run_of(names, term[2])
    return lambda held: ("pair", one(held), two(held))


def _run_of_half(names, term):
    pair = _run_of(names, term[1])
    at = 1 if term[0] == "first" else 2

    def run(held):
        halves = pair(held)
        return halves[at]

    return run


def _run_of_left(names, term):
    part = _run_of(names, term[1])
    return lambda held: ("left", part(held))


def _run_of_right(names, term):
    part = _run_of(names, term[2])
    return lambda held: ("right", part(held))


def _run_of_case(names, term):
    either = _run_of(names, term[1])
    left, right = _run_of(names + (term[2],), term[3]), _run_of(names + (term[4],), term[5])

    def run(held):
        side, part = either(held)
        return left(held + (part,)) if side == "left" else right(held + (part,))

    return run


def _run_of_cons(names, term):
    first, rest = _run_of(names, term[1]), _run_of(names, term[2])
    return lambda held: (first(held),) + rest(held)


def _run_of_fold(names, term):
    step, start, row = _run_of(names, term[1]), _run_of(names, term[2]), _run_of(names, term[3])

    def run(held):
        action, worth, things = step(held), start(held), row(held)
        # The fold of the rest is reckoned first; so no list, however long, asks for recursion.
        for thing in things[::-1]:
            further = action(thing)
            worth = further(worth)
        return worth

    return run


RUNS = {
    "name": _run_of_name,
    "fn": _run_of_fn,
    "call": _run_of_call,
    "let": _run_of_let,
    "unit": _run_of_unit,
    "number": _run_of_number,
    "plus": _run_of_plus,
    "times": _run_of_times,
    "minus": _run_of_minus,
    "is": _run_of_is,
    "pair": _run_of_pair,
    "first": _run_of_half,
    "second": _run_of_half,
    "left": _run_of_left,
    "right": _run_of_right,
    "case": _run_of_case,
    "nil": _run_of_unit,
    "cons": _run_of_cons,
    "fold": _run_of_fold,
}


def _run_of(names, term):
    row = RUNS[term[0]]
    return row(names, term)

"""What terms mean, told by walking them with a dict of names, apart from the program; and things laid in values."""

from things import NUM, UNIT

YES, NO = ("left", ()), ("right", ())
TRUTH = ("either", UNIT, UNIT)
IS = {"<": lambda one, two: one < two, "<=": lambda one, two: one <= two, "==": lambda one, two: one == two}


def meant(term, names=None):
    """The meaning of the term, the names having these values; functions are Python's."""
    names = names or {}

    def of(part, **more):
        return meant(part, {**names, **more})

    match term:
        case ("name", x):
            return names[x]
        case ("fn", x, _, t):
            return lambda value: of(t, **{x: value})
        case ("call", f, p):
            return of(f)(of(p))
        case ("let", x, p, t):
            return of(t, **{x: of(p)})
        case ("unit",) | ("nil", _):
            return ()
        case ("number", n):
            return n
        case ("plus", p, t):
            return of(p) + of(t)
        case ("times", p, t):
            return of(p) * of(t)
        case ("minus", p):
            return 0 - of(p)
        case ("is", sign, p, t):
            return YES if IS[sign](of(p), of(t)) else NO
        case ("pair", p, t):
            return ("pair", of(p), of(t))
        case ("first", p):
            return of(p)[1]
        case ("second", p):
            return of(p)[2]
        case ("left", p, _):
            return ("left", of(p))
        case ("right", _, p):
            return ("right", of(p))
        case ("case", e, x, t, y, u):
            side, part = of(e)
            return of(t, **{x: part}) if side == "left" else of(u, **{y: part})
        case ("cons", p, l):
            return (of(p), *of(l))
        case ("fold", f, z, l):
            return folded(of(f), of(z), of(l))
    raise AssertionError(term)


def folded(step, start, things):
    return start if things == () else step(things[0])(folded(step, start, things[1:]))


def given(value, arguments):
    for argument in arguments:
        value = value(argument)
    return value


def row_of(kind):
    """The kinds of the arguments, and of what is left."""
    if kind[0] != "fun":
        return [], kind
    asked, told = row_of(kind[2])
    return [kind[1]] + asked, told


def spots(kind, value):
    """The variable and the thing at each place of a value of a data kind, in order."""
    match kind:
        case ("var", var):
            return [(var, value)]
        case ("pair", one, two):
            return spots(one, value[1]) + spots(two, value[2])
        case ("either", left, right):
            return spots(left if value[0] == "left" else right, value[1])
        case ("list", part):
            return [spot for thing in value for spot in spots(part, thing)]
    return []


def replaced(kind, value, told):
    """The value with told(VAR, THING) in the place of each thing; told sees the places in no promised order."""
    match kind:
        case ("var", var):
            return told(var, value)
        case ("pair", one, two):
            return ("pair", replaced(one, value[1], told), replaced(two, value[2], told))
        case ("either", left, right):
            return (value[0], replaced(left if value[0] == "left" else right, value[1], told))
        case ("list", part):
            return tuple(replaced(part, thing, told) for thing in value)
    return value


def numbered(kinds, shape):
    """The arguments of data kinds with 0, 1, 2 .. at the places of each variable; others as they stand."""
    counts = {"a": 0, "b": 0, "c": 0}
    found = []
    for kind, value in zip(kinds, shape):
        if kind[0] == "fun":
            found.append(value)
            continue
        marked = []
        for var, _ in spots(kind, value):
            marked.append(counts[var])
            counts[var] += 1
        rest = iter(marked)
        found.append(replaced_in_order(kind, value, rest))
    return tuple(found)


def replaced_in_order(kind, value, rest):
    match kind:
        case ("var", _):
            return next(rest)
        case ("pair", one, two):
            first = replaced_in_order(one, value[1], rest)
            return ("pair", first, replaced_in_order(two, value[2], rest))
        case ("either", left, right):
            return (value[0], replaced_in_order(left if value[0] == "left" else right, value[1], rest))
        case ("list", part):
            found = []
            for thing in value:
                found.append(replaced_in_order(part, thing, rest))
            return tuple(found)
    return value


def with_kind(kind, put):
    """The kind with others in the place of variables."""
    if kind[0] == "var":
        return put.get(kind[1], kind)
    return (kind[0],) + tuple(with_kind(part, put) for part in kind[1:])


def variables_in(kind):
    if kind[0] == "var":
        return {kind[1]}
    return {var for part in kind[1:] for var in variables_in(part)}


NUMS = {"a": NUM, "b": NUM, "c": NUM}
UNITS = {"a": UNIT, "b": UNIT, "c": UNIT}

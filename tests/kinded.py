"""The kind of a term found as the document's rows tell, apart from the program; and terms that are made to have one."""

from made import split
from things import A, B, C, NUM, UNIT

TRUTH = ("either", UNIT, UNIT)
# The kinds of which parts of the made terms are.
POOL = (
    NUM, A, UNIT, ("list", A), ("pair", A, NUM), TRUTH, B, ("fun", A, NUM), ("either", NUM, B), ("list", ("list", NUM)),
    ("fun", NUM, ("fun", A, A)), C, ("pair", ("list", B), C),
)
# With these each variable has a thing.
NAMES = {"x": A, "y": B, "z": C, "n": NUM, "l": ("list", A), "p": ("pair", A, NUM), "e": TRUTH, "f": ("fun", A, NUM)}
# These are bound in made terms, so that the variables' things stay in reach.
BINDERS = "qrnlpef"


def found(names, term):
    """The pair of the term's kind and None; or of None and the path to what is wrong first."""
    match term:
        case ("name", x):
            return (names[x], None) if x in names else (None, ())
        case ("fn", x, kind, t):
            return by_row([3], [({**names, x: kind}, t)], lambda told: (("fun", kind, told), None))
        case ("let", x, p, t):
            kind, wrong = found(names, p)
            return (None, (2,) + wrong) if kind is None else by_row([3], [({**names, x: kind}, t)], lambda told: (told, None))
        case ("case", e, x, t, y, u):
            either, wrong = found(names, e)
            if either is None:
                return None, (1,) + wrong
            if either[0] != "either":
                return None, (1,)
            seen = [({**names, x: either[1]}, t), ({**names, y: either[2]}, u)]
            return by_row([3, 5], seen, lambda one, two: (one, None) if one == two else (None, (5,)))
        case ("unit",):
            return UNIT, None
        case ("number", _):
            return NUM, None
        case ("nil", kind):
            return ("list", kind), None
        case ("left", p, kind):
            return by_row([1], [(names, p)], lambda told: (("either", told, kind), None))
        case ("right", kind, p):
            return by_row([2], [(names, p)], lambda told: (("either", kind, told), None))
        case ("is", _, p, t):
            return by_row([2, 3], [(names, p), (names, t)], lambda one, two: numbers((one, two), TRUTH, 2))
        case (word, *parts):
            rows = {
                "plus": lambda *told: numbers(told, NUM, 1), "times": lambda *told: numbers(told, NUM, 1),
                "minus": lambda *told: numbers(told, NUM, 1), "pair": lambda one, two: (("pair", one, two), None),
                "first": lambda told: (told[1], None) if told[0] == "pair" else (None, (1,)),
                "second": lambda told: (told[2], None) if told[0] == "pair" else (None, (1,)),
                "cons": lambda one, two: (two, None) if two == ("list", one) else (None, (2,)),
                "call": called, "fold": folded,
            }
            return by_row(range(1, len(parts) + 1), [(names, part) for part in parts], rows[word])


def by_row(indexes, seen, row):
    """What the row tells of the kinds of the parts; or the first part that has none."""
    kinds = []
    for at, (names, part) in zip(indexes, seen):
        kind, wrong = found(names, part)
        if kind is None:
            return None, (at,) + wrong
        kinds.append(kind)
    return row(*kinds)


def numbers(kinds, told, first):
    for at, kind in enumerate(kinds, start=first):
        if kind != NUM:
            return None, (at,)
    return told, None


def called(function, argument):
    if function[0] != "fun":
        return None, (1,)
    return (function[2], None) if argument == function[1] else (None, (2,))


def folded(step, start, things):
    if step[0] != "fun" or step[2] != ("fun", start, start):
        one = step[2][1] if step[0] == "fun" and step[2][0] == "fun" else None
        if one is None or step[2][2] != one:
            return None, (1,)
        return None, (2,)
    return (start, None) if things == ("list", step[1]) else (None, (3,))


def turned_kind(kind, put):
    """The kind with other kinds in the place of its variables."""
    if kind[0] == "var":
        return put.get(kind[1], kind)
    return (kind[0],) + tuple(turned_kind(part, put) for part in kind[1:])


def turned_term(term, put, forms):
    """The term with other kinds in the place of the variables of all its kinds."""
    told = [term[0]]
    for sort, thing in zip(forms[term[0]], term[1:]):
        if sort == "K":
            told.append(turned_kind(thing, put))
        else:
            told.append(turned_term(thing, put, forms) if sort == "T" else thing)
    return tuple(told)


def term_of(kind, names, number, levels):
    """A term of the kind, the names having theirs, not more than some levels deep but for what is needed."""
    ways = [lambda number, name=name: ("name", name) for name in names if names[name] == kind]
    if kind[0] != "var":
        ways.append(lambda number: made_plainly(kind, names, number, levels))
    if levels > 1:
        ways += [lambda number, word=word: made_by(word, kind, names, number, levels) for word in words_for(kind)]
    number, at = divmod(number, len(ways))
    return ways[at](number)


def words_for(kind):
    words = ["call", "let", "case", "first", "second", "fold"]
    if kind == NUM:
        words += ["plus", "times", "minus"]
    if kind == TRUTH:
        words += ["is"]
    if kind[0] == "list":
        words += ["cons"]
    return words


def made_plainly(kind, names, number, levels):
    one, two = split(number, 2)
    match kind:
        case ("unit",):
            return ("unit",)
        case ("num",):
            return ("number", number // 2 - 3)
        case ("pair", first, second):
            return ("pair", term_of(first, names, one, levels - 1), term_of(second, names, two, levels - 1))
        case ("either", left, right):
            if number % 2:
                return ("left", term_of(left, names, number // 2, levels - 1), right)
            return ("right", left, term_of(right, names, number // 2, levels - 1))
        case ("list", thing):
            return ("nil", thing)
        case ("fun", argument, told):
            name = BINDERS[one % len(BINDERS)]
            return ("fn", name, argument, term_of(told, {**names, name: argument}, two, levels - 1))


def made_by(word, kind, names, number, levels):
    one, two, three, other = split(number, 4)
    some = POOL[other % len(POOL)]
    more = POOL[other // len(POOL) % len(POOL)]

    def of(asked, number, seen=names):
        return term_of(asked, seen, number, levels - 1)

    match word:
        case "call":
            return ("call", of(("fun", some, kind), one), of(some, two))
        case "let":
            name = BINDERS[three % len(BINDERS)]
            return ("let", name, of(some, one), of(kind, two, {**names, name: some}))
        case "case":
            either = ("either", some, more)
            x, y = BINDERS[one % len(BINDERS)], BINDERS[two % len(BINDERS)]
            left, right = of(kind, two, {**names, x: some}), of(kind, three, {**names, y: more})
            return ("case", of(either, one), x, left, y, right)
        case "first":
            return ("first", of(("pair", kind, some), one))
        case "second":
            return ("second", of(("pair", some, kind), one))
        case "fold":
            return ("fold", of(("fun", some, ("fun", kind, kind)), one), of(kind, two), of(("list", some), three))
        case "plus" | "times":
            return (word, of(NUM, one), of(NUM, two))
        case "minus":
            return ("minus", of(NUM, one))
        case "is":
            return ("is", ("<", "<=", "==")[three % 3], of(NUM, one), of(NUM, two))
        case "cons":
            return ("cons", of(kind[1], one), of(kind, two))


def program_of(kind, number, levels):
    """A program of a kind a -> b -> c -> the kind; so that each variable has a thing."""
    names = {"x": A, "y": B, "z": C}
    return ("fn", "x", A, ("fn", "y", B, ("fn", "z", C, term_of(kind, names, number, levels))))

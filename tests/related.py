"""What is related, and all ways apart, told as the document's words stand, apart from the program."""

import itertools

from kinded import term_of, turned_term
from made import FORMS, value_from
from meant import with_kind
from things import A, B, C, NUM, UNIT

TRUTH = ("either", UNIT, UNIT)


def pairs_of(relation):
    return {var: pairs for var, _, _, pairs in relation}


def ones_of(relation):
    return {var: one for var, one, _, _ in relation}


def twos_of(relation):
    return {var: two for var, _, two, _ in relation}


def values_of(kind, things):
    """All values of the small kind, the things of a variable being these."""
    match kind:
        case ("var", var):
            return list(things[var])
        case ("unit",):
            return [()]
        case ("pair", one, two):
            return [("pair", x, y) for x, y in itertools.product(values_of(one, things), values_of(two, things))]
        case ("either", left, right):
            return [("left", x) for x in values_of(left, things)] + [("right", y) for y in values_of(right, things)]
    raise AssertionError(kind)


def asked_pairs(kind, pairs):
    """All pairs that are related at the small kind, in order: of all values those that are."""
    ones = {var: sorted({repr(x): x for x, _ in row}.values()) for var, row in pairs.items()}
    twos = {var: sorted({repr(y): y for _, y in row}.values()) for var, row in pairs.items()}
    both = itertools.product(sorted(values_of(kind, ones)), sorted(values_of(kind, twos)))
    return [(x, y) for x, y in both if is_related(kind, pairs, x, y)]


def is_related(kind, pairs, one, two):
    match kind:
        case ("var", var):
            return (one, two) in pairs[var]
        case ("unit",) | ("num",):
            return one == two
        case ("pair", first, second):
            return is_related(first, pairs, one[1], two[1]) and is_related(second, pairs, one[2], two[2])
        case ("either", left, right):
            return one[0] == two[0] and is_related(left if one[0] == "left" else right, pairs, one[1], two[1])
        case ("list", part):
            return len(one) == len(two) and all(is_related(part, pairs, x, y) for x, y in zip(one, two))
        case ("fun", asked, told):
            return all(is_related(told, pairs, one(x), two(y)) for x, y in asked_pairs(asked, pairs))


def all_ways(kind, pairs, one, two):
    """All ways to where both are not related, the first one first."""
    match kind:
        case ("var", _) | ("num",):
            return [] if is_related(kind, pairs, one, two) else [()]
        case ("unit",):
            return []
        case ("pair", first, second):
            ahead = [("first",) + way for way in all_ways(first, pairs, one[1], two[1])]
            return ahead + [("second",) + way for way in all_ways(second, pairs, one[2], two[2])]
        case ("either", left, right):
            if one[0] != two[0]:
                return [()]
            return [("side",) + way for way in all_ways(left if one[0] == "left" else right, pairs, one[1], two[1])]
        case ("list", part):
            if len(one) != len(two):
                return [()]
            return [(at,) + way for at, (x, y) in enumerate(zip(one, two)) for way in all_ways(part, pairs, x, y)]
        case ("fun", asked, told):
            return [(("with", x, y),) + way for x, y in asked_pairs(asked, pairs) for way in all_ways(told, pairs, one(x),
                two(y))]


def how_many(kind, pairs):
    """How many pairs are related at the small kind, reckoned."""
    match kind:
        case ("var", var):
            return len(pairs[var])
        case ("unit",):
            return 1
        case ("pair", one, two):
            return how_many(one, pairs) * how_many(two, pairs)
        case ("either", one, two):
            return how_many(one, pairs) + how_many(two, pairs)


def rows_in(kind, pairs):
    match kind:
        case ("var", _) | ("num",) | ("unit",):
            return 1
        case ("list", part):
            return max(1, rows_in(part, pairs))
        case ("pair" | "either", one, two):
            return max(1, rows_in(one, pairs), rows_in(two, pairs))
        case ("fun", asked, told):
            return how_many(asked, pairs) * rows_in(told, pairs)


def closed_thing(kind, put, number, levels=4):
    """A thing of the kind with closed data kinds in the place of its variables: a value, or a term."""
    full = with_kind(kind, put)
    if "fun" not in str(full):
        return value_from(full, number)
    names = {"x": A, "y": B, "z": C}
    whole = {"a": NUM, "b": UNIT, "c": TRUTH, **put}
    term = turned_term(term_of(kind, names, number, levels), whole, FORMS)
    for name, var, part in (("x", "a", 1), ("y", "b", 2), ("z", "c", 3)):
        term = ("let", name, written(whole[var], value_from(whole[var], number // part)), term)
    return term


def written(kind, value):
    """A term that means the value."""
    match kind:
        case ("num",):
            return ("number", value)
        case ("unit",):
            return ("unit",)
        case ("pair", one, two):
            return ("pair", written(one, value[1]), written(two, value[2]))
        case ("either", left, right):
            return ("left", written(left, value[1]), right) if value[0] == "left" else ("right", left, written(right, value[1]))
        case ("list", part):
            term = ("nil", part)
            for thing in reversed(value):
                term = ("cons", written(part, thing), term)
            return term


def relation_from(number, kinds=(NUM, UNIT, TRUTH, ("list", NUM), ("pair", NUM, TRUTH)), most=4):
    """A relation of the three variables, made by counting."""
    found = []
    for at, var in enumerate("abc"):
        drawn = (number + 1) * 2654435761 + at * 40503 + number * number
        one, two = kinds[drawn // 7 % len(kinds)], kinds[drawn // 77 % len(kinds)]
        pairs = {}
        for more in range(drawn // 1001 % (most + 1)):
            pair = (value_from(one, drawn // (3 + more) % 5), value_from(two, drawn // (11 + more) % 4))
            pairs[repr(pair)] = pair
        found.append((var, one, two, tuple(sorted(pairs.values()))))
    return tuple(found)

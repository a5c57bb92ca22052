"""Which pairs are related at a kind, and the ways to where two meanings are not related (points C2 and C5).

Told here are dicts of the PAIRS of each variable, which have all variables of the kinds.
"""

from bykindalone.kinding import filled
from bykindalone.kinds import is_text_of, parts_of_kind
from bykindalone.values import is_number, is_value

SMALL_WORDS = ("var", "unit", "pair", "either")


def is_small_kind(kind):
    """Whether the kind is made of variables, unit, pair and either alone; refuses what is no kind."""
    return all([part[0] in SMALL_WORDS for part in parts_of_kind(kind)])


def is_tried_kind(kind):
    """Whether the arguments' kind of each function's kind in the kind is small; refuses what is no kind."""
    return all([is_small_kind(part[1]) for part in parts_of_kind(kind) if part[0] == "fun"])


def pairs_by_variable(relation):
    """A dict of the PAIRS of each variable of the relation."""
    return {var: pairs for var, _, _, pairs in relation}


def ascending(pairs):
    """The ascending tuple of the pairs, each once."""
    row = sorted(pairs)
    return tuple([pair for index, pair in enumerate(row) if index == 0 or pair != row[index - 1]])


def both_fillings(relation):
    """The pair of the ones and the twos of the relation."""
    return tuple([(var, one) for var, one, _, _ in relation]), tuple([(var, two) for var, _, two, _ in relation])


def how_many_related(kind, told):
    """How many pairs are related at the small kind."""
    word = kind[0]
    if word == "var":
        return len(told[kind[1]])
    if word == "unit":
        return 1
    one, two = how_many_related(kind[1], told), how_many_related(kind[2], told)
    return one * two if word == "pair" else one + two


def rows_of(kind, told):
    """How many rows the tried kind has."""
    word = kind[0]
    if word == "var":
        return 1
    if word == "fun":
        return how_many_related(kind[1], told) * rows_of(kind[2], told)
    return max([1] + [rows_of(part, told) for part in kind[1:]])


def all_related(kind, told):
    """The ascending list of all pairs that are related at the small kind."""
    # A part may have pairs without number where the other one has none.
    if how_many_related(kind, told) == 0:
        return []
    return sorted(_related(kind, told))


def first_way(kind, told, one, two):
    """The first way to where the two meanings are not related at the tried kind; None if they are related."""
    word = kind[0]
    if word == "var":
        return None if (one, two) in told[kind[1]] else ()
    if word == "unit" or word == "num":
        return None if one == two else ()
    if word == "pair":
        way = first_way(kind[1], told, one[1], two[1])
        if way is not None:
            return ("first",) + way
        return _led("second", first_way(kind[2], told, one[2], two[2]))
    if word == "either":
        if one[0] != two[0]:
            return ()
        return _led("side", first_way(kind[1] if one[0] == "left" else kind[2], told, one[1], two[1]))
    if word == "list":
        return _first_way_of_lists(kind, told, one, two)
    return _first_way_of_functions(kind, told, one, two)


def leads_apart(kind, relation, one, two, way):
    """Whether it is a way, whatever it is, that leads to where the two meanings are not related at the tried kind."""
    if not isinstance(way, tuple):
        return False
    for step in way:
        behind = _behind_step(kind, relation, one, two, step)
        if behind is None:
            return False
        kind, one, two = behind
    return _are_apart_here(kind, pairs_by_variable(relation), one, two)


def _behind_step(kind, relation, one, two, step):
    """The kind and the two meanings to which the step leads, whatever it is; None if it leads nowhere."""
    word = kind[0]
    if word == "pair" and is_text_of(step, ("first", "second")):
        at = 1 if step == "first" else 2
        return kind[at], one[at], two[at]
    if word == "either" and is_text_of(step, ("side",)) and one[0] == two[0]:
        return kind[1] if one[0] == "left" else kind[2], one[1], two[1]
    if word == "list" and is_number(step) and 0 <= step < len(one) and len(one) == len(two):
        return kind[1], one[step], two[step]
    if word == "fun" and _tells_related(kind[1], relation, step):
        return kind[2], one(step[1]), two(step[2])
    return None


def _tells_related(kind, relation, step):
    """Whether it is ("with", X, Y) of values that are related at the small kind, whatever it is."""
    if not isinstance(step, tuple) or len(step) != 3 or not is_text_of(step[0], ("with",)):
        return False
    ones, twos = both_fillings(relation)
    if not is_value(filled(kind, ones), step[1]) or not is_value(filled(kind, twos), step[2]):
        return False
    return first_way(kind, pairs_by_variable(relation), step[1], step[2]) is None


def _are_apart_here(kind, told, one, two):
    """Whether a way that leads to the two meanings ends at them."""
    word = kind[0]
    if word == "either":
        return one[0] != two[0]
    if word == "list":
        return len(one) != len(two)
    return word in ("var", "num") and first_way(kind, told, one, two) is not None


def _led(step, way):
    """The way behind the step; None if there is none."""
    return None if way is None else (step,) + way


def _first_way_of_lists(kind, told, one, two):
    if len(one) != len(two):
        return ()
    for index, (first, second) in enumerate(zip(one, two)):
        way = first_way(kind[1], told, first, second)
        if way is not None:
            return (index,) + way
    return None


def _first_way_of_functions(kind, told, one, two):
    # Without rows no two functions are apart, and the arguments may be without number.
    if rows_of(kind, told) == 0:
        return None
    for first, second in all_related(kind[1], told):
        way = first_way(kind[2], told, one(first), two(second))
        if way is not None:
            return (("with", first, second),) + way
    return None


def _related(kind, told):
    """The pairs that are related at the small kind, which has some, each once."""
    word = kind[0]
    if word == "var":
        return list(told[kind[1]])
    if word == "unit":
        return [((), ())]
    one, two = all_related(kind[1], told), all_related(kind[2], told)
    if word == "pair":
        return [(("pair", x, v), ("pair", y, w)) for x, y in one for v, w in two]
    left = [(("left", x), ("left", y)) for x, y in one]
    return left + [(("right", v), ("right", w)) for v, w in two]

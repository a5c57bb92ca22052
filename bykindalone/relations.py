"""Relations between things, what is related by them, and values turned by them (points C1 to C7)."""

from bykindalone.errors import InvalidKind, InvalidRelation, InvalidThing, InvalidValue, NotRelated, TooMany, Unfilled
from bykindalone.kinding import filled
from bykindalone.kinds import VARIABLES, is_closed_kind, is_data_kind, is_text_of, variables_of
from bykindalone.meaning import meant_by, told_of_things
from bykindalone.programs import asked_and_told, check_told, is_thing, kind_of_program
from bykindalone.shapes import things_in, with_things
from bykindalone.values import is_value
from bykindalone.ways import all_related, ascending, both_fillings, first_way, how_many_related, is_small_kind
from bykindalone.ways import is_tried_kind, pairs_by_variable, rows_of

MOST_ROWS = 400


def is_relation(value):
    """Whether it is a relation, whatever it is."""
    try:
        check_relation(value)
    except InvalidRelation:
        return False
    return True


def fillings(relation):
    """The pair of the two fillings that the relation tells: its ones and its twos."""
    check_relation(relation)
    return both_fillings(relation)


def is_tried(kind):
    """Whether it can be looked through whether two meanings are related at the kind."""
    return is_tried_kind(kind)


def related_pairs(kind, relation):
    """The ascending tuple of all pairs that are related at the small kind."""
    if not is_small_kind(kind):
        raise InvalidKind(kind)
    check_tells(relation, kind)
    told = pairs_by_variable(relation)
    many = how_many_related(kind, told)
    if many > MOST_ROWS:
        raise TooMany(many)
    return tuple(all_related(kind, told))


def are_related(kind, relation, one, two):
    """Whether the two things are related at the tried kind."""
    return way_apart(kind, relation, one, two) is None


def way_apart(kind, relation, one, two):
    """The first way to where the two things are not related at the tried kind; None if they are related."""
    check_things(kind, relation, one, two)
    return first_way(kind, pairs_by_variable(relation), meant_by(kind, one), meant_by(kind, two))


def flipped(relation):
    """The relation with both sides in each other's place."""
    check_relation(relation)
    return tuple([(var, two, one, ascending([(y, x) for x, y in pairs])) for var, one, two, pairs in relation])


def behind(relation, other):
    """The relation and then the other one."""
    check_relation(relation)
    check_relation(other)
    if len(other) != len(relation):
        raise InvalidRelation(None)
    for index, (first, second) in enumerate(zip(relation, other)):
        if second[0] != first[0] or second[1] != first[2]:
            raise InvalidRelation(index)
    return tuple([_one_behind(first, second) for first, second in zip(relation, other)])


def is_turn(value):
    """Whether it is a relation in which no first value stands twice, whatever it is."""
    return is_relation(value) and all([_tells_each_once(pairs) for _, _, _, pairs in value])


def turned(kind, turn, value):
    """The value of the data kind with the thing that stands beside it in the place of each thing."""
    if not is_data_kind(kind):
        raise InvalidKind(kind)
    check_tells(turn, kind)
    if not is_turn(turn):
        raise InvalidRelation(None)
    ones, _ = both_fillings(turn)
    told = pairs_by_variable(turn)
    if not is_value(filled(kind, ones), value) or not _are_all_told(things_in(kind, value), told):
        raise InvalidValue(value)
    return with_things(kind, value, lambda var, thing: _beside(told[var], thing)[0])


def both_told(program, relation, ones, twos):
    """The pair of what the program tells under the two fillings of the relation, of related arguments."""
    kind = kind_of_program(program)
    check_tells(relation, kind)
    for filling, arguments in zip(both_fillings(relation), (ones, twos)):
        check_told(kind, filling, arguments)
    check_related_arguments(kind, relation, ones, twos)
    return told_of_things(kind, program, ones), told_of_things(kind, program, twos)


def check_relation(relation):
    """Refuses what is no relation, at what is wrong first."""
    if not isinstance(relation, tuple):
        raise InvalidRelation(None)
    last = ""
    for index, part in enumerate(relation):
        if not _relates_a_variable(part) or part[0] <= last:
            raise InvalidRelation(index)
        last = part[0]


def check_tells(relation, kind):
    """Refuses what is no relation, then the first variable of the kind that it does not tell."""
    check_relation(relation)
    told = pairs_by_variable(relation)
    for var in variables_of(kind):
        if var not in told:
            raise Unfilled(var)


def check_things(kind, relation, one, two):
    """Refuses what are no kind to look through, no relation that tells it, no things of it, and too many rows."""
    if not is_tried_kind(kind):
        raise InvalidKind(kind)
    check_tells(relation, kind)
    for filling, thing in zip(both_fillings(relation), (one, two)):
        if not is_thing(filled(kind, filling), thing):
            raise InvalidThing(thing)
    check_rows(kind, pairs_by_variable(relation))


def check_rows(kind, told):
    """Refuses a tried kind with too many rows."""
    rows = rows_of(kind, told)
    if rows > MOST_ROWS:
        raise TooMany(rows)


def check_related_arguments(kind, relation, ones, twos):
    """Refuses arguments for a program of the kind of which it can't be told, or isn't so, that they are related."""
    asked, _ = asked_and_told(kind)
    told = pairs_by_variable(relation)
    for part in asked:
        if not is_tried_kind(part):
            raise InvalidKind(part)
    for part in asked:
        check_rows(part, told)
    for index, part in enumerate(asked):
        if first_way(part, told, meant_by(part, ones[index]), meant_by(part, twos[index])) is not None:
            raise NotRelated(index)


def _relates_a_variable(value):
    """Whether it may stand in a relation by itself, whatever it is."""
    if not isinstance(value, tuple) or len(value) != 4 or not is_text_of(value[0], VARIABLES):
        return False
    _, one, two, pairs = value
    if not all([is_data_kind(kind) and is_closed_kind(kind) for kind in (one, two)]):
        return False
    return isinstance(pairs, tuple) and _are_ascending_pairs(one, two, pairs)


def _are_ascending_pairs(one, two, pairs):
    for index, pair in enumerate(pairs):
        if not isinstance(pair, tuple) or len(pair) != 2:
            return False
        if not is_value(one, pair[0]) or not is_value(two, pair[1]):
            return False
        # Values of one kind stand in Python's order of tuples.
        if index > 0 and not pairs[index - 1] < pair:
            return False
    return True


def _one_behind(first, second):
    """What stands for one variable in a relation and then another one."""
    found = [(x, z) for x, y in first[3] for between, z in second[3] if y == between]
    return (first[0], first[1], second[2], ascending(found))


def _tells_each_once(pairs):
    # The pairs are ascending: like first values stand side by side.
    return all([one[0] != two[0] for one, two in zip(pairs, pairs[1:])])


def _are_all_told(things, told):
    return all([len(_beside(told[var], thing)) > 0 for var, thing in things])


def _beside(pairs, thing):
    """The list of what stands beside the thing."""
    return [y for x, y in pairs if x == thing]

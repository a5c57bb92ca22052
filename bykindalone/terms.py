"""Names and terms: what they are, their parts and paths, how deep they are, their free names (point A3)."""

from bykindalone.errors import InvalidTerm
from bykindalone.kinds import DEEPEST, depth_of_kind, is_kind, is_text_of
from bykindalone.values import is_number

WORDS = ("fn", "let", "in", "case", "unit", "num", "list", "nil", "cons", "fold", "first", "second", "left", "right")
LETTERS = "abcdefghijklmnopqrstuvwxyz"
FIGURES = "0123456789"
LONGEST_NAME = 8
SIGNS = ("<", "<=", "==")
DEEPEST_WRITTEN = 16
DEEPEST_KIND_WRITTEN = 6
MOST_PARTS_WRITTEN = 120

# By the first text of a term: of which sort each thing behind this text has to be.
SORTS = {
    "name": ("name",),
    "fn": ("name", "kind", "term"),
    "call": ("term", "term"),
    "let": ("name", "term", "term"),
    "unit": (),
    "number": ("number",),
    "plus": ("term", "term"),
    "times": ("term", "term"),
    "minus": ("term",),
    "is": ("sign", "term", "term"),
    "pair": ("term", "term"),
    "first": ("term",),
    "second": ("term",),
    "left": ("term", "kind"),
    "right": ("kind", "term"),
    "case": ("term", "name", "term", "name", "term"),
    "nil": ("kind",),
    "cons": ("term", "term"),
    "fold": ("term", "term", "term"),
}
# By the first text of a term and the index of a part: the index of the name that is bound in this part.
BOUND = {("fn", 3): 1, ("let", 3): 1, ("case", 3): 2, ("case", 5): 4}


def is_name(value):
    """Whether it is a name, whatever it is."""
    if not isinstance(value, str) or not 1 <= len(value) <= LONGEST_NAME:
        return False
    if value[0] not in LETTERS or value in WORDS:
        return False
    return all([sign in LETTERS or sign in FIGURES for sign in value])


def is_term(value):
    """Whether it is a term, whatever it is."""
    return wrong_place(value, DEEPEST, DEEPEST) is None


def is_written(value):
    """Whether it is a term as written, whatever it is."""
    return wrong_place_as_written(value) is None


def parts_of(term):
    """How many parts the term has, itself among them."""
    check_term(term)
    return len(_parts_with_levels(term))


def depth_of(term):
    """How deep the term is: its deepest part's level, counted from 1 for the term itself."""
    check_term(term)
    return max([level for part, level in _parts_with_levels(term)])


def free_names(term):
    """The ascending tuple of the names that are free in the term, each once."""
    check_term(term)
    found = []
    waiting = [(term, ())]
    while waiting:
        part, bound = waiting.pop()
        if part[0] == "name" and part[1] not in bound:
            found.append(part[1])
        waiting.extend([(part[at], bound + _bound_in(part, at)) for at in _indexes_of_terms(part)])
    return tuple(sorted(set(found)))


def part_at(term, path):
    """The part to which the path leads; None if it leads to none, whatever it is."""
    check_term(term)
    if not isinstance(path, tuple):
        return None
    part = term
    for at in path:
        if not is_number(at) or at not in _indexes_of_terms(part):
            return None
        part = part[at]
    return part


def check_term(term):
    """Refuses what is no term, at what is wrong first."""
    place = wrong_place(term, DEEPEST, DEEPEST)
    if place is not None:
        raise InvalidTerm(place)


def check_written(value):
    """Refuses what is no term as written, at what is wrong first."""
    place = wrong_place_as_written(value)
    if place is not None:
        raise InvalidTerm(place)


def wrong_place_as_written(value):
    """The path to what is wrong first in what should be a term as written; None if all is well."""
    place = wrong_place(value, DEEPEST_WRITTEN, DEEPEST_KIND_WRITTEN)
    if place is None and len(_parts_with_levels(value)) > MOST_PARTS_WRITTEN:
        return ()
    return place


def wrong_place(value, deepest, deepest_kind):
    """The path to what is wrong first in what should be a term, no part or kind being deeper; None if all is well."""
    # What is to be looked at waits in a list, the next one last, so no value asks for deep recursion.
    waiting = [((), "term", value)]
    while waiting:
        path, sort, thing = waiting.pop()
        if sort == "term":
            if len(path) >= deepest or not _has_form(thing):
                return path
            sorts = sorts_of(thing)
            waiting.extend([(path + (at,), sorts[at - 1], thing[at]) for at in range(len(sorts), 0, -1)])
        elif not _is_of_sort(sort, thing, deepest_kind):
            return path
    return None


def sorts_of(term):
    """The sort of each thing behind the term's first text: "term", "kind", "name", "sign" or "number"."""
    return SORTS[term[0]]


def _has_form(value):
    """Whether it is a term as far as can be seen without looking at what stands behind its first text."""
    if not isinstance(value, tuple) or len(value) == 0:
        return False
    word = value[0]
    return isinstance(word, str) and word in SORTS and len(value) == 1 + len(SORTS[word])


def _is_of_sort(sort, value, deepest_kind):
    """Whether it may stand in a term where a thing of the sort, which is no term, is due."""
    if sort == "name":
        return is_name(value)
    if sort == "sign":
        return is_text_of(value, SIGNS)
    if sort == "number":
        return is_number(value) and _has_few_figures(value)
    return is_kind(value) and depth_of_kind(value) <= deepest_kind


def _has_few_figures(number):
    # 10 to the 400th is the least number of 401 figures.
    return abs(number) < (10 ** 50) ** 8


def _indexes_of_terms(term):
    """The indexes of the terms that stand in the term."""
    return [at for at, sort in enumerate(sorts_of(term), start=1) if sort == "term"]


def _bound_in(term, at):
    """A tuple of the one name that the term binds in its part at the index, or of none."""
    if (term[0], at) not in BOUND:
        return ()
    return (term[BOUND[(term[0], at)]],)


def _parts_with_levels(term):
    """The pairs of each part of the term and its level, the term itself being at 1."""
    found = []
    waiting = [(term, 1)]
    while waiting:
        part, level = waiting.pop()
        found.append((part, level))
        waiting.extend([(part[at], level + 1) for at in _indexes_of_terms(part)])
    return found

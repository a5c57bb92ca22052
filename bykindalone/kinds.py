"""Kinds: what they are, how deep they are, and which variables stand in them (point A1)."""

from bykindalone.errors import InvalidKind

VARIABLES = ("a", "b", "c")
WORDS_BY_LENGTH = {1: ("unit", "num"), 2: ("var", "list"), 3: ("pair", "either", "fun")}
DEEPEST = 100
TRUTH = ("either", ("unit",), ("unit",))


def is_kind(value):
    """Whether it is a kind, whatever it is."""
    return _parts_with_levels(value) is not None


def is_data_kind(value):
    """Whether it is a kind in which no fun is, whatever it is."""
    return _is_kind_without(value, "fun")


def is_closed_kind(value):
    """Whether it is a kind in which no variable is, whatever it is."""
    return _is_kind_without(value, "var")


def depth_of_kind(kind):
    """How deep the kind is: its deepest part's level, counted from 1 for the kind itself."""
    return max([level for part, level in _told_parts(kind)])


def variables_of(kind):
    """The ascending tuple of the variables in the kind, each once."""
    return tuple(sorted({part[1] for part in parts_of_kind(kind) if part[0] == "var"}))


def parts_of_kind(kind):
    """The list of all kinds within the kind, itself among them."""
    return [part for part, level in _told_parts(kind)]


def is_text_of(value, texts):
    """Whether it is one of the texts, whatever it is."""
    return isinstance(value, str) and value in texts


def _is_kind_without(value, word):
    found = _parts_with_levels(value)
    return found is not None and all([part[0] != word for part, level in found])


def _told_parts(kind):
    found = _parts_with_levels(kind)
    if found is None:
        raise InvalidKind(kind)
    return found


def _parts_with_levels(value):
    """The pairs of each part of a kind and its level, the kind itself being at 1; None for no kind."""
    # The parts wait in a list, and none below the deepest level is looked at,
    # so no value, however deep, asks for deep recursion.
    found = []
    waiting = [(value, 1)]
    while waiting:
        part, level = waiting.pop()
        if level > DEEPEST or not _has_form(part):
            return None
        found.append((part, level))
        if part[0] != "var":
            waiting.extend([(below, level + 1) for below in part[1:]])
    return found


def _has_form(value):
    """Whether it is a kind as far as can be seen without looking into its parts."""
    if not isinstance(value, tuple) or len(value) not in WORDS_BY_LENGTH:
        return False
    # The word is compared with texts, not looked up: what stands in its place may have no hash.
    if not is_text_of(value[0], WORDS_BY_LENGTH[len(value)]):
        return False
    return value[0] != "var" or is_text_of(value[1], VARIABLES)

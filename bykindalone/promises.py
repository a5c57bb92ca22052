"""The promise of a kind, as a tuple and in words, and its equation (points C4 and C7)."""

from bykindalone.errors import InvalidKind
from bykindalone.kinds import depth_of_kind, is_closed_kind, is_data_kind, is_kind
from bykindalone.text import show_kind

DEEPEST_PROMISED = 6


def promise_of(kind):
    """The promise that one and two are related at the kind."""
    _check_kind(kind)
    promise, _ = _promise_from(kind, ("one",), ("two",), 1)
    return promise


def promise_text(kind):
    """The promise of the kind in words."""
    return _words_of(promise_of(kind))


def equation_text(kind):
    """The equation in words of a kind of functions, of data kinds all."""
    _check_kind(kind)
    asked = []
    told = kind
    while told[0] == "fun":
        asked.append(told[1])
        told = told[2]
    if len(asked) == 0 or not all([is_data_kind(part) for part in asked + [told]]):
        raise InvalidKind(kind)
    names = [f"x{at}" for at in range(1, len(asked) + 1)]
    plain = "".join([f"({name})" for name in names])
    turned = "".join([f"({_turned(part)}{name})" for part, name in zip(asked, names)])
    return f"{_turned(told)}one{plain} = two{turned}"


def _turned(kind):
    """What stands ahead of a thing of the kind that is turned; at a closed kind it would be itself."""
    return "" if is_closed_kind(kind) else "turned "


def _check_kind(kind):
    if not is_kind(kind) or depth_of_kind(kind) > DEEPEST_PROMISED:
        raise InvalidKind(kind)


def _promise_from(kind, one, two, count):
    """The promise that two things are related at the kind, counted from a number on, and the next number."""
    if is_data_kind(kind) and is_closed_kind(kind):
        return ("same", one, two), count
    word = kind[0]
    if word == "var":
        return ("by", kind[1], one, two), count
    if word == "pair":
        first, behind = _promise_from(kind[1], ("first", one), ("first", two), count)
        second, behind = _promise_from(kind[2], ("second", one), ("second", two), behind)
        return ("both", first, second), behind
    x, y = ("x", count), ("y", count)
    first, behind = _promise_from(kind[1], x, y, count + 1)
    if word == "list":
        return ("each", count, one, two, first), behind
    if word == "either":
        second, behind = _promise_from(kind[2], x, y, behind)
        return ("sides", count, one, two, first, second), behind
    second, behind = _promise_from(kind[2], ("told", one, x), ("told", two, y), behind)
    return ("all", count, kind[1], first, second), behind


def _words_of(promise):
    word = promise[0]
    if word == "same":
        return f"{_thing_words(promise[1])} = {_thing_words(promise[2])}"
    if word == "by":
        return f"{_thing_words(promise[2])} ~{promise[1]} {_thing_words(promise[3])}"
    if word == "both":
        return f"({_words_of(promise[1])} and {_words_of(promise[2])})"
    both = f"x{promise[1]}, y{promise[1]}"
    if word == "all":
        kind = show_kind(promise[2])
        return f"(all {both} of {kind} with {_words_of(promise[3])} have {_words_of(promise[4])})"
    things = f"{_thing_words(promise[2])} and {_thing_words(promise[3])}"
    if word == "each":
        return f"({things} are as long, each {both} with {_words_of(promise[4])})"
    return f"({things} are left {both} with {_words_of(promise[4])} or right {both} with {_words_of(promise[5])})"


def _thing_words(thing):
    word = thing[0]
    if word in ("one", "two"):
        return word
    if word in ("x", "y"):
        return f"{word}{thing[1]}"
    if word == "told":
        return f"{_thing_words(thing[1])}({_thing_words(thing[2])})"
    return f"{_thing_words(thing[1])}.{word}"

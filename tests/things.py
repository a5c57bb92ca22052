"""What several tests pass: odd things of any kind, and chains that are many levels deep."""

NUM = ("num",)
UNIT = ("unit",)
A = ("var", "a")
B = ("var", "b")
C = ("var", "c")

# With the text or the number at the bottom these are 300 levels.
MOST_NESTED = 299


class Plain:
    """A thing of a class of its own."""


class Unhashable:
    """A thing that is equal to itself alone and has no hash."""

    __hash__ = None

    def __eq__(self, other):
        return self is other


def chain(wrap, last, levels):
    """The last thing wrapped until the whole is as many levels deep, the last thing being one."""
    thing = last
    for _ in range(levels - 1):
        thing = wrap(thing)
    return thing


def deep_things():
    """Things of many makes, each nested as deep as any thing that is passed."""
    return [
        chain(lambda x: (x,), (), MOST_NESTED),
        chain(lambda x: [x], [], MOST_NESTED),
        chain(lambda x: {"list": x}, {}, MOST_NESTED),
        chain(lambda x: ("list", x), ("num",), MOST_NESTED),
        chain(lambda x: ("list", x), 0, MOST_NESTED),
        chain(lambda x: ("fun", x, ("num",)), ("num",), MOST_NESTED),
        chain(lambda x: ("pair", ("unit",), x), ("var", "a"), MOST_NESTED),
        chain(lambda x: ["list", x], ["num"], MOST_NESTED),
        chain(lambda x: ("left", x), (), MOST_NESTED),
        chain(lambda x: ("pair", x, 0), 0, MOST_NESTED),
        chain(lambda x: ("list", [x]), ("num",), MOST_NESTED // 2),
    ]


def odd_words():
    """What may stand where a word or a variable is due, and is none."""
    return [
        None, True, False, 0, 1, -1, 10 ** 399, "", " ", "A", "d", "aa", "ab", "abc", "a ", "x", "unit ", "Num",
        "NUM", "number", "fn", "name", "nil", "cons", "int", "tuple", "both", "one", b"", b"a", b"num", b"unit",
        b"list", b"left", (), ("a",), ("list",), (None,), [], ["a"], ["num"], {}, {"a": "b"}, {"num": 1}, set(),
        {"num"}, frozenset(["a"]), bytearray(b"num"), Plain(), Plain, Unhashable(), len, ..., NotImplemented, range(3),
        iter(["num"]), ValueError("num"),
    ]


def odd_things():
    """Things that are no kinds, and values of no kind but of those that are told beside their tests."""
    things = odd_words() + deep_things()
    things += [(word,) for word in odd_words()]
    things += [(word, ("num",)) for word in odd_words()]
    things += [(word, ("num",), ("num",)) for word in odd_words()]
    return things

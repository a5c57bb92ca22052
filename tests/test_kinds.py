"""Points 4, 6 and A1: kinds, data and closed ones, how deep they are, their variables."""

import copy
import unittest

from bykindalone.errors import InvalidKind
from bykindalone.kinds import TRUTH, depth_of_kind, is_closed_kind, is_data_kind, is_kind, variables_of
from things import A, B, C, NUM, UNIT, chain, deep_things, odd_things, odd_words

ASKS = (is_kind, is_data_kind, is_closed_kind)

# Each row: a kind, whether it is one of data, whether it is closed, how deep it is, its variables.
KINDS = (
    (NUM, True, True, 1, ()),
    (UNIT, True, True, 1, ()),
    (A, True, False, 1, ("a",)),
    (B, True, False, 1, ("b",)),
    (C, True, False, 1, ("c",)),
    (("list", NUM), True, True, 2, ()),
    (("list", C), True, False, 2, ("c",)),
    (("list", ("list", ("list", UNIT))), True, True, 4, ()),
    (("pair", NUM, NUM), True, True, 2, ()),
    (("pair", A, NUM), True, False, 2, ("a",)),
    (("pair", NUM, A), True, False, 2, ("a",)),
    (("pair", B, A), True, False, 2, ("a", "b")),
    (("pair", ("list", C), UNIT), True, False, 3, ("c",)),
    (("pair", UNIT, ("list", C)), True, False, 3, ("c",)),
    (("either", UNIT, NUM), True, True, 2, ()),
    (("either", C, B), True, False, 2, ("b", "c")),
    (("either", ("list", ("list", NUM)), A), True, False, 4, ("a",)),
    (("either", A, ("list", ("list", NUM))), True, False, 4, ("a",)),
    (("fun", NUM, UNIT), False, True, 2, ()),
    (("fun", A, A), False, False, 2, ("a",)),
    (("fun", NUM, C), False, False, 2, ("c",)),
    (("fun", C, NUM), False, False, 2, ("c",)),
    (("fun", ("fun", NUM, NUM), NUM), False, True, 3, ()),
    (("fun", NUM, ("fun", NUM, NUM)), False, True, 3, ()),
    (("list", ("fun", NUM, NUM)), False, True, 3, ()),
    (("list", ("fun", B, NUM)), False, False, 3, ("b",)),
    (("pair", ("fun", NUM, NUM), NUM), False, True, 3, ()),
    (("pair", NUM, ("fun", NUM, NUM)), False, True, 3, ()),
    (("either", ("fun", NUM, NUM), NUM), False, True, 3, ()),
    (("either", NUM, ("fun", NUM, NUM)), False, True, 3, ()),
    (("pair", C, ("pair", B, ("pair", A, C))), True, False, 4, ("a", "b", "c")),
    (("pair", ("pair", ("pair", A, B), C), A), True, False, 4, ("a", "b", "c")),
    (("fun", C, ("either", ("list", A), ("pair", C, A))), False, False, 4, ("a", "c")),
    (("fun", ("fun", ("pair", A, A), ("pair", A, A)), ("fun", ("list", A), ("list", A))), False, False, 4, ("a",)),
    (TRUTH, True, True, 2, ()),
)

# Each wraps a kind into one that is one level deeper; the last two make functions.
WRAPS = (
    lambda kind: ("list", kind),
    lambda kind: ("pair", kind, NUM),
    lambda kind: ("pair", UNIT, kind),
    lambda kind: ("either", kind, UNIT),
    lambda kind: ("either", NUM, kind),
    lambda kind: ("fun", kind, NUM),
    lambda kind: ("fun", UNIT, kind),
)


def mixed_wraps(levels):
    """A kind of as many levels, wrapped in each way in turn."""
    kind = NUM
    for level in range(levels - 1):
        kind = WRAPS[level % len(WRAPS)](kind)
    return kind


def deep_kinds(levels):
    """Kinds of as many levels, of each make."""
    made = [chain(wrap, last, levels) for wrap in WRAPS for last in (NUM, UNIT, A)]
    return made + [mixed_wraps(levels)]


def broken_forms():
    """What is near to kinds, and none."""
    rows = [("unit", NUM), ("num", NUM), ("unit", ()), ("num", 3), ("var", "a", "b"), ("var", "a", NUM), ("var",)]
    for word, many in (("list", 1), ("pair", 2), ("either", 2), ("fun", 2)):
        for count in (0, 1, 2, 3, 4):
            if count != many:
                rows.append((word,) + (NUM,) * count)
                rows.append((word,) + (A,) * count)
        for at in range(many):
            for part in (None, "num", 3, (), ["num"], ("var", "d"), ("num", "num"), ("list",), (("num",),), [A]):
                parts = [NUM] * many
                parts[at] = part
                rows.append((word,) + tuple(parts))
        rows.append([word] + [NUM] * many)
        rows.append((word, (NUM,) * many))
    return rows + [["num"], ["unit"], ["var", "a"], "num", "unit", "a", ("",), (), ((),), (NUM,), (NUM, NUM), ("a",)]


def wrong_words():
    """Kinds but for what stands in the place of their word, or of their variable."""
    rows = []
    for word in odd_words():
        rows += [(word,), (word, "a"), (word, NUM), (word, NUM, NUM), ("var", word)]
        rows += [("list", (word,)), ("pair", (word, NUM), NUM), ("fun", NUM, (word, NUM, NUM)), ("either", (word,), NUM)]
    return rows


def no_kinds():
    """Things that are no kinds, each wrapped and not wrapped."""
    things = odd_things() + broken_forms() + wrong_words() + deep_kinds(101) + deep_kinds(102) + deep_kinds(150)
    things += deep_kinds(299)
    wrapped = [wrap(thing) for wrap in WRAPS for thing in broken_forms()]
    return things + wrapped


class TestKinds(unittest.TestCase):
    def test_truth(self):
        self.assertEqual(TRUTH, ("either", ("unit",), ("unit",)))
        self.assertIsInstance(TRUTH, tuple)

    def test_kinds_are_told_by_position(self):
        for kind, data, closed, depth, variables in KINDS:
            with self.subTest(kind):
                self.assertIs(is_kind(kind), True)
                self.assertIs(is_data_kind(kind), data)
                self.assertIs(is_closed_kind(kind), closed)
                self.assertEqual(depth_of_kind(kind), depth)
                self.assertEqual(variables_of(kind), variables)
                self.assertIsInstance(variables_of(kind), tuple)

    def test_kinds_are_told_by_name(self):
        for kind, data, closed, depth, variables in KINDS:
            with self.subTest(kind):
                self.assertIs(is_kind(value=kind), True)
                self.assertIs(is_data_kind(value=kind), data)
                self.assertIs(is_closed_kind(value=kind), closed)
                self.assertEqual(depth_of_kind(kind=kind), depth)
                self.assertEqual(variables_of(kind=kind), variables)

    def test_kinds_of_two_kinds_are_as_their_parts(self):
        for one, one_data, one_closed, one_depth, one_variables in KINDS:
            for two, two_data, two_closed, two_depth, two_variables in KINDS:
                for word in ("pair", "either", "fun"):
                    kind = (word, one, two)
                    self.assertIs(is_kind(kind), True)
                    self.assertIs(is_data_kind(kind), word != "fun" and one_data and two_data)
                    self.assertIs(is_closed_kind(kind), one_closed and two_closed)
                    self.assertEqual(depth_of_kind(kind), 1 + max(one_depth, two_depth))
                    self.assertEqual(variables_of(kind), tuple(sorted(set(one_variables + two_variables))))

    def test_variables_ascend_wherever_they_stand(self):
        for one in (A, B, C):
            for two in (A, B, C):
                for three in (A, B, C):
                    told = tuple(sorted({one[1], two[1], three[1]}))
                    self.assertEqual(variables_of(("pair", one, ("list", ("either", two, three)))), told)
                    self.assertEqual(variables_of(("fun", ("fun", one, ("list", two)), three)), told)

    def test_only_three_variables(self):
        for word in odd_words() + ["d", "z", "A", "a1", "", "ab", "bc", "abc", "var", "unit", ("a",), ["a"], b"b", 0]:
            for ask in ASKS:
                self.assertIs(ask(("var", word)), False)
                self.assertIs(ask(("list", ("var", word))), False)


class TestDepth(unittest.TestCase):
    def test_kinds_a_hundred_deep_are_kinds(self):
        for levels in (2, 99, 100):
            for kind in deep_kinds(levels):
                self.assertIs(is_kind(kind), True)
                self.assertEqual(depth_of_kind(kind), levels)

    def test_deeper_ones_are_none(self):
        for levels in (101, 102, 150, 200, 299):
            for kind in deep_kinds(levels):
                for ask in ASKS:
                    self.assertIs(ask(kind), False)

    def test_deep_kinds_have_their_variables(self):
        for wrap in WRAPS:
            self.assertEqual(variables_of(chain(wrap, B, 100)), ("b",))
            self.assertEqual(variables_of(chain(wrap, NUM, 100)), ())

    def test_deep_data_kinds_and_closed_ones(self):
        for wrap in WRAPS[:5]:
            self.assertIs(is_data_kind(chain(wrap, NUM, 100)), True)
            self.assertIs(is_closed_kind(chain(wrap, NUM, 100)), True)
            self.assertIs(is_closed_kind(chain(wrap, C, 100)), False)
            self.assertIs(is_data_kind(chain(wrap, ("fun", NUM, NUM), 99)), False)
            self.assertIs(is_closed_kind(chain(wrap, ("fun", NUM, NUM), 99)), True)
        for wrap in WRAPS[5:]:
            self.assertIs(is_data_kind(chain(wrap, NUM, 100)), False)
            self.assertIs(is_closed_kind(chain(wrap, NUM, 100)), True)

    def test_the_deepest_part_counts(self):
        lists = chain(WRAPS[0], NUM, 99)
        shallow = chain(WRAPS[0], NUM, 40)
        for word in ("pair", "either", "fun"):
            self.assertEqual(depth_of_kind((word, lists, shallow)), 100)
            self.assertEqual(depth_of_kind((word, shallow, lists)), 100)
            self.assertEqual(depth_of_kind((word, lists, lists)), 100)
            self.assertEqual(depth_of_kind((word, shallow, shallow)), 41)
            for ask in ASKS:
                self.assertIs(ask((word, ("list", lists), NUM)), False)
                self.assertIs(ask((word, NUM, ("list", lists))), False)

    def test_wide_kinds(self):
        kind = A
        for _ in range(12):
            kind = ("pair", kind, ("either", kind, B))
        self.assertIs(is_kind(kind), True)
        self.assertEqual(depth_of_kind(kind), 25)
        self.assertEqual(variables_of(kind), ("a", "b"))


class TestWrong(unittest.TestCase):
    def test_what_is_no_kind_is_told_so(self):
        for thing in no_kinds():
            for ask in ASKS:
                self.assertIs(ask(thing), False)
                self.assertIs(ask(value=thing), False)

    def test_what_is_no_kind_is_refused(self):
        for thing in no_kinds():
            for function in (depth_of_kind, variables_of):
                with self.assertRaises(InvalidKind) as caught:
                    function(thing)
                self.assertIs(caught.exception.given, thing)
                with self.assertRaises(InvalidKind) as caught:
                    function(kind=thing)
                self.assertIs(caught.exception.given, thing)

    def test_the_whole_is_told_where_a_part_is_wrong(self):
        kind = ("fun", NUM, ("list", ("var", "d")))
        with self.assertRaises(InvalidKind) as caught:
            depth_of_kind(kind)
        self.assertEqual(caught.exception.given, ("fun", ("num",), ("list", ("var", "d"))))

    def test_nothing_passed_is_changed(self):
        for thing in ([["list"], ("num",)], ("list", ["num"]), ("pair", {"num": []}, NUM), {"var": ["a"]}):
            kept = copy.deepcopy(thing)
            for ask in ASKS:
                ask(thing)
            for function in (depth_of_kind, variables_of):
                self.assertRaises(InvalidKind, function, thing)
            self.assertEqual(thing, kept)

    def test_what_can_be_gone_through_once_is_not_gone_through(self):
        for thing in (iter(["num"]), iter(["list", NUM])):
            for ask in ASKS:
                self.assertIs(ask(thing), False)
            self.assertEqual(next(thing) in ("num", "list"), True)

    def test_a_second_call_tells_the_same(self):
        for kind, _, _, _, _ in KINDS:
            self.assertEqual(variables_of(kind), variables_of(kind))
            self.assertEqual(depth_of_kind(kind), depth_of_kind(kind))
            self.assertEqual([ask(kind) for ask in ASKS], [ask(kind) for ask in ASKS])
        for thing in deep_things():
            self.assertEqual([ask(thing) for ask in ASKS], [ask(thing) for ask in ASKS])


if __name__ == "__main__":
    unittest.main()

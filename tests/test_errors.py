"""Points 5 and 6: the errors, how they are made, what they keep, and as what they are met."""

import unittest

from bykindalone import errors
from things import deep_things, odd_things

ATTRIBUTES = {
    "KindError": (),
    "InvalidKind": ("given",),
    "InvalidValue": ("given",),
    "InvalidLine": ("given",),
    "InvalidThing": ("given",),
    "TooMany": ("given",),
    "InvalidTable": ("given",),
    "InvalidNumber": ("given",),
    "InvalidFilling": ("index",),
    "InvalidContext": ("index",),
    "InvalidArguments": ("index",),
    "InvalidRelation": ("index",),
    "NotRelated": ("index",),
    "InvalidShape": ("index",),
    "InvalidThings": ("index",),
    "InvalidAnswers": ("index",),
    "InvalidNumbers": ("index",),
    "InvalidRuns": ("index",),
    "InvalidTerm": ("place",),
    "WrongTerm": ("place",),
    "InvalidText": ("line", "column"),
    "NotData": ("kind",),
    "NotFirst": ("kind",),
    "NotTested": ("kind",),
    "NotPutting": ("kind",),
    "Unfilled": ("var",),
    "UnlikeKinds": (),
}


def class_of(name):
    return getattr(errors, name)


def told_things():
    """What the errors are told: what the document passes, and whatever else there is."""
    return odd_things() + [0, 7, -3, (), (0, 2), "a", 1.5, ("num",), ("fun", ("var", "a"), ("num",)), (5, None)]


class TestClasses(unittest.TestCase):
    def test_each_class_is_defined_in_errors(self):
        for name in ATTRIBUTES:
            with self.subTest(name):
                self.assertIsInstance(class_of(name), type)
                self.assertEqual(class_of(name).__name__, name)
                self.assertEqual(class_of(name).__module__, "bykindalone.errors")

    def test_kind_error_is_under_value_error(self):
        self.assertTrue(issubclass(errors.KindError, ValueError))

    def test_all_others_are_under_kind_error(self):
        for name in ATTRIBUTES:
            with self.subTest(name):
                self.assertTrue(issubclass(class_of(name), errors.KindError))

    def test_none_is_under_another_class_of_the_package(self):
        for name in ATTRIBUTES:
            with self.subTest(name):
                above = {one for one in class_of(name).__mro__ if one.__module__.startswith("bykindalone")}
                self.assertEqual(above, {class_of(name), errors.KindError})

    def test_unlike_names_are_unlike_classes(self):
        for name in ATTRIBUTES:
            for other in ATTRIBUTES:
                if other not in (name, "KindError"):
                    with self.subTest(name=name, other=other):
                        self.assertFalse(issubclass(class_of(name), class_of(other)))


class TestMaking(unittest.TestCase):
    def test_made_by_position_it_keeps_whatever_it_is_given(self):
        for name, attributes in ATTRIBUTES.items():
            if len(attributes) == 1:
                for thing in told_things():
                    made = class_of(name)(thing)
                    self.assertIs(getattr(made, attributes[0]), thing, name)

    def test_made_by_name_it_keeps_whatever_it_is_given(self):
        for name, attributes in ATTRIBUTES.items():
            if len(attributes) == 1:
                for thing in told_things():
                    made = class_of(name)(**{attributes[0]: thing})
                    self.assertIs(getattr(made, attributes[0]), thing, name)

    def test_line_and_column_are_kept_apart(self):
        for line in (1, 2, 40, None, "3", [4], Ellipsis):
            for column in (1, 7, 120, None, "8", (9,), {}):
                made = [
                    errors.InvalidText(line, column),
                    errors.InvalidText(line=line, column=column),
                    errors.InvalidText(column=column, line=line),
                    errors.InvalidText(line, column=column),
                ]
                for one in made:
                    self.assertIs(one.line, line)
                    self.assertIs(one.column, column)

    def test_line_and_column_are_kept_whatever_they_are(self):
        for thing in told_things():
            self.assertIs(errors.InvalidText(thing, 1).line, thing)
            self.assertIs(errors.InvalidText(thing, 1).column, 1)
            self.assertIs(errors.InvalidText(1, thing).column, thing)
            self.assertIs(errors.InvalidText(1, thing).line, 1)

    def test_those_without_attributes_are_made_of_nothing(self):
        self.assertIsInstance(errors.KindError(), errors.KindError)
        self.assertIsInstance(errors.UnlikeKinds(), errors.UnlikeKinds)

    def test_each_keeps_its_own_side_by_side(self):
        rows = []
        for turn in range(3):
            for name, attributes in ATTRIBUTES.items():
                told = {attribute: (name, attribute, turn) for attribute in attributes}
                rows.append((class_of(name)(**told), told))
                rows.append((class_of(name)(*told.values()), told))
        for made, told in rows:
            for attribute, thing in told.items():
                self.assertIs(getattr(made, attribute), thing)

    def test_what_is_kept_is_not_changed(self):
        given = [1, [2, {"a": [3]}]]
        for name, attributes in ATTRIBUTES.items():
            class_of(name)(*[given for _ in attributes])
        self.assertEqual(given, [1, [2, {"a": [3]}]])

    def test_equal_calls_tell_the_same(self):
        self.assertEqual(errors.InvalidKind(("x",)).given, errors.InvalidKind(("x",)).given)
        self.assertEqual(errors.InvalidText(2, 3).column, errors.InvalidText(2, 3).column)


class TestRaising(unittest.TestCase):
    def met(self, error, wanted):
        """What is met where an error is raised and one of the wanted class is waited for."""
        try:
            raise error
        except wanted as e:
            return e

    def test_it_is_met_as_its_own_class_and_all_above(self):
        for name, attributes in ATTRIBUTES.items():
            for wanted in (class_of(name), errors.KindError, ValueError, Exception):
                with self.subTest(name=name, wanted=wanted):
                    told = [("told", attribute) for attribute in attributes]
                    made = class_of(name)(*told)
                    caught = self.met(made, wanted)
                    self.assertIs(caught, made)
                    self.assertEqual([getattr(caught, attribute) for attribute in attributes], told)

    def test_made_by_name_it_is_met_and_tells_the_same(self):
        for name, attributes in ATTRIBUTES.items():
            for wanted in (class_of(name), errors.KindError, ValueError, Exception):
                told = {attribute: ["told", attribute] for attribute in attributes}
                caught = self.met(class_of(name)(**told), wanted)
                for attribute, thing in told.items():
                    self.assertIs(getattr(caught, attribute), thing)

    def test_it_tells_the_same_whatever_it_keeps(self):
        for thing in deep_things() + [None, [], {}, "", b"x", 10 ** 399]:
            self.assertIs(self.met(errors.InvalidValue(thing), errors.KindError).given, thing)
            self.assertIs(self.met(errors.InvalidText(thing, None), errors.KindError).line, thing)

    def test_it_is_not_met_as_another_class(self):
        for name, attributes in ATTRIBUTES.items():
            others = tuple(class_of(other) for other in ATTRIBUTES if other not in (name, "KindError"))
            made = class_of(name)(*attributes)
            with self.assertRaises(class_of(name)):
                try:
                    raise made
                except others:
                    self.fail(name + " is met as another class")


if __name__ == "__main__":
    unittest.main()

"""The sessions of the document's interface, as they stand there, told one after the other."""

import unittest

from bykindalone import errors

SESSIONS = r"""
>>> from bykindalone.kinds import TRUTH, depth_of_kind, is_closed_kind, is_data_kind, is_kind, variables_of
>>> num, unit, a, b = ("num",), ("unit",), ("var", "a"), ("var", "b")
>>> turn, row = ("fun", a, ("list", ("pair", b, a))), ("list", ("either", num, unit))
>>> [is_kind(turn), is_kind(("var", "d")), is_kind(("list", a, b)), is_data_kind(turn), is_data_kind(turn[2]), is_closed_kind(turn[2]), is_closed_kind(row)]
[True, False, False, False, True, False, True]
>>> [depth_of_kind(turn), variables_of(turn), variables_of(row), TRUTH]
[4, ('a', 'b'), (), ('either', ('unit',), ('unit',))]

>>> from bykindalone.values import is_value, order
>>> some = (("left", 3), ("right", ()), ("left", -1))
>>> [is_value(row, some), is_value(row, list(some)), is_value(num, True), is_value(unit, ()), is_value(row, ())]
[True, False, False, True, True]
>>> [order(row, some, some[:2]), order(row, some[:1], (("right", ()),)), order(row, (), ())]
[1, -1, 0]
"""


def steps_of(text):
    """The pairs of what is said and what is answered, None where nothing is."""
    steps = []
    for line in text.splitlines():
        if line.startswith(">>> "):
            steps.append([line[len(">>> "):], None])
        elif line.strip():
            steps[-1][1] = line
    return steps


def answer_to(said, names):
    """What is answered, in the document's way of writing it."""
    try:
        return repr(eval(said, names))
    except errors.KindError as error:
        told = ", ".join(f"{name}={value!r}" for name, value in vars(error).items())
        return f"raises {type(error).__name__}({told})"


class TestSessions(unittest.TestCase):
    def test_each_step_is_answered_as_it_stands_there(self):
        names = {}
        for said, answered in steps_of(SESSIONS):
            with self.subTest(said):
                if answered is None:
                    exec(said, names)
                else:
                    self.assertEqual(answer_to(said, names), answered)

    def test_the_steps_are_all_told(self):
        steps = steps_of(SESSIONS)
        self.assertEqual([len(steps), len([said for said, answered in steps if answered is not None])], [9, 4])


if __name__ == "__main__":
    unittest.main()

"""Point 2: the whole document over counted programs, from their texts to what a desk that keeps them tells."""

import unittest

from bykindalone.certificates import certify_alike, certify_kind, certify_none, certify_related, certify_table, certify_told
from bykindalone.checker import accepts
from bykindalone.desk import Desk
from bykindalone.kinding import filled, kind_of
from bykindalone.kinds import depth_of_kind
from bykindalone.marks import alike_at, by_table, laid, marked, shape_of, table_of
from bykindalone.meaning import told
from bykindalone.promises import promise_of, promise_text
from bykindalone.relations import are_related, both_told, fillings, is_turn, turned
from bykindalone.terms import is_written
from bykindalone.text import read_kind, read_term, read_value, show_kind, show_term, show_value
from kinded import program_of
from made import value_from
from meant import replaced, row_of, spots, with_kind
from related import relation_from
from things import A, B, C, NUM, UNIT

UNITS = {"a": UNIT, "b": UNIT, "c": UNIT}
KINDS = ("list a", "(a, num) -> list b -> (a, list b)", "list a -> a | b -> list (a | b)", "num -> list (c, a) -> list c")
FILLINGS = ((("a", NUM), ("b", ("list", UNIT)), ("c", UNIT)),
    (("a", ("pair", NUM, UNIT)), ("b", NUM), ("c", ("either", NUM, UNIT))))


def programs():
    """Triples of a number, a kind and a program of it."""
    for text in KINDS:
        kind = ("fun", A, ("fun", B, ("fun", C, read_kind(text))))
        for number in range(1, 60):
            program = program_of(kind[2][2][2], number * number * 7919 + (number ** 9 << 20), 4)
            if is_written(program):
                yield number, kind, program


def things_for(kind, shape, filling, number):
    """Things for the places of each variable in the arguments, by counting."""
    asked, _ = row_of(kind)
    found = [var for part, value in zip(asked, shape) for var, _ in spots(part, value)]
    return tuple((var, tuple(value_from(dict(filling)[var], number + at) for at in range(found.count(var)))) for var in "abc")


def shape_from(kind, number):
    asked, _ = row_of(kind)
    return tuple(value_from(with_kind(part, UNITS), number * 17 + at) for at, part in enumerate(asked))


class TestWhole(unittest.TestCase):
    def test_a_program_from_its_text_to_its_table(self):
        ran = 0
        for number, kind, program in programs():
            self.assertEqual(read_term(show_term(program)), program)
            self.assertEqual(kind_of((), program), kind)
            self.assertEqual(read_kind(show_kind(kind)), kind)
            shape = shape_from(kind, number)
            table = table_of(program, shape)
            for filling in FILLINGS:
                things = things_for(kind, shape, filling, number)
                arguments = laid(program, shape, filling, things)
                self.assertEqual(shape_of(program, filling, arguments), shape)
                answer = told(program, filling, arguments)
                self.assertEqual(by_table(program, shape, table, filling, things), answer)
                for claim, paper in (certify_kind(program), certify_told(program, filling, arguments),
                    certify_table(program, shape)):
                    self.assertTrue(accepts(claim, paper))
                run = (filling, arguments, answer)
                self.assertTrue(accepts(("some tells", kind, (run,)), program))
                self.assertFalse(accepts(("tells not", program, run), ()))
                self.assertFalse(accepts(("no table", program, shape, table), (filling, things)))
                self.assertIsNone(certify_none(kind, (run,)))
                ran += 1
            for part in row_of(kind)[0] + [row_of(kind)[1]]:
                self.assertTrue(accepts(("promise", part, promise_of(part)), ()))
        self.assertGreater(ran, 150)

    def test_a_program_is_kept_by_relations_and_by_turns(self):
        ran = turns = 0
        for number, kind, program in programs():
            relation = relation_from(number * 5, most=5)
            if any(not pairs for _, _, _, pairs in relation):
                continue
            asked, left = row_of(kind)
            drawn = {var: pairs[number % len(pairs)] for var, _, _, pairs in relation}
            ones, twos = (tuple(replaced(part, value, lambda var, _: drawn[var][side]) for part,
                value in zip(asked, shape_from(kind, number))) for side in (0, 1))
            one, two = both_told(program, relation, ones, twos)
            before, behind = fillings(relation)
            self.assertEqual((one, two), (told(program, before, ones), told(program, behind, twos)))
            self.assertTrue(are_related(left, relation, one, two))
            self.assertTrue(accepts(("kept", program, relation, ones, twos), ()))
            self.assertTrue(accepts(*certify_related(left, relation, one, two)))
            self.assertTrue(accepts(("related", left, relation, one, two), ()))
            if is_turn(relation):
                self.assertEqual(turned(left, relation, one), two)
                self.assertTrue(accepts(("turned", program, relation, ones, two), ()))
                turns += 1
            ran += 1
        self.assertGreater(ran, 60)
        self.assertGreater(turns, 15)

    def test_a_desk_tells_the_same_in_texts(self):
        desk, others = Desk(), []
        for number, kind, program in programs():
            asked, left = row_of(kind)
            name = f"p{number % 7}"
            self.assertEqual(desk.say(f"program {name} = {show_term(program)}"), (f"{name}: {show_kind(kind)}",))
            self.assertEqual(dict(desk.programs())[name], program)
            shape, filling = shape_from(kind, number), FILLINGS[number % 2]
            arguments = laid(program, shape, filling, things_for(kind, shape, filling, number))
            kinds = ", ".join(f"{var} = {show_kind(part)}" for var, part in filling)
            values = "; ".join(show_value(filled(part, filling), value) for part, value in zip(asked, arguments))
            answer = desk.say(f"tell {name} {kinds}: {values}")
            self.assertEqual(answer, (show_value(filled(left, filling), told(program, filling, arguments)),))
            self.assertEqual(read_value(filled(left, filling), answer[0]), told(program, filling, arguments))
            units, nums = tuple((var, UNIT) for var in "abc"), tuple((var, NUM) for var in "abc")
            places = "; ".join(show_value(filled(part, units), value) for part, value in zip(asked, shape))
            self.assertEqual(desk.say(f"table {name}: {places}"), (show_value(filled(left, nums), table_of(program, shape)),))
            promise = promise_text(kind) if depth_of_kind(kind) <= 6 else "too deep"
            self.assertEqual(desk.say(f"promise {name}"), (promise,))
            for other in others:
                self.check_alike(desk, name, other, kind, shape, places)
            others = (others + [name])[-2:]

    def check_alike(self, desk, name, other, kind, shape, places):
        kept, asked = dict(desk.programs()), row_of(kind)[0]
        answer = desk.say(f"alike {name} {other}: {places}")
        if kind_of((), kept[other]) != kind:
            self.assertEqual(answer, ("unlike kinds",))
        elif alike_at(kept[name], kept[other], shape):
            self.assertEqual(answer, ("alike",))
            self.assertEqual(certify_alike(kept[name], kept[other], shape)[1], ())
        else:
            nums = tuple((var, NUM) for var in "abc")
            marks = "; ".join(show_value(filled(part, nums), value) for part, value in zip(asked, marked(kept[name], shape)))
            self.assertEqual(answer, (f"unlike at {marks}",))
            claim, paper = certify_alike(kept[name], kept[other], shape)
            self.assertTrue(accepts(claim, paper))
            self.assertEqual(laid(kept[name], shape, *paper), marked(kept[name], shape))


if __name__ == "__main__":
    unittest.main()

"""The sessions of the document's interface, as they stand there, told one after the other."""

import unittest

from bykindalone import errors

# By the module behind which it stands in the document, in the order in which they stand there.
SESSIONS = {
    "kinds": r"""
>>> from bykindalone.kinds import TRUTH, depth_of_kind, is_closed_kind, is_data_kind, is_kind, variables_of
>>> num, unit, a, b = ("num",), ("unit",), ("var", "a"), ("var", "b")
>>> turn, row = ("fun", a, ("list", ("pair", b, a))), ("list", ("either", num, unit))
>>> [is_kind(turn), is_kind(("var", "d")), is_kind(("list", a, b)), is_data_kind(turn), is_data_kind(turn[2]), is_closed_kind(turn[2]), is_closed_kind(row)]
[True, False, False, False, True, False, True]
>>> [depth_of_kind(turn), variables_of(turn), variables_of(row), TRUTH]
[4, ('a', 'b'), (), ('either', ('unit',), ('unit',))]
""",
    "values": r"""
>>> from bykindalone.values import is_value, order
>>> some = (("left", 3), ("right", ()), ("left", -1))
>>> [is_value(row, some), is_value(row, list(some)), is_value(num, True), is_value(unit, ()), is_value(row, ())]
[True, False, False, True, True]
>>> [order(row, some, some[:2]), order(row, some[:1], (("right", ()),)), order(row, (), ())]
[1, -1, 0]
""",
    "terms": r"""
>>> from bykindalone.terms import depth_of, free_names, is_name, is_term, is_written, part_at, parts_of
>>> ahead = ("fn", "x", a, ("cons", ("name", "x"), ("name", "y")))
>>> [is_name("x1"), is_name("fold"), is_name("1x"), parts_of(ahead), depth_of(ahead), free_names(ahead), part_at(ahead, (3, 1)), part_at(ahead, (2,))]
[True, False, False, 4, 3, ('y',), ('name', 'x'), None]
>>> [is_term(("let", "x", ("name", "x"), ("name", "x"))), free_names(("let", "x", ("name", "x"), ("name", "x"))), is_term(("number", True)), is_written(("nil", a))]
[True, ('x',), False, True]
""",
    "text": r"""
>>> from bykindalone.text import read_kind, read_term, read_value, show_kind, show_term, show_value
>>> [show_kind(turn), show_kind(("fun", ("fun", a, b), ("either", a, ("either", num, row)))), read_kind("a|b|c") == ("either", ("either", a, b), ("var", "c"))]
['a -> list (b, a)', '(a -> b) -> a | (num | list (num | unit))', True]
>>> [show_value(row, some), read_value(row, "[left(3),right(( )),left(-1)]") == some, show_value(row, ()), show_value(TRUTH, ("left", ()))]
['[left(3), right(()), left(-1)]', True, '[]', 'left(())']
>>> show_term(("call", ahead, ("minus", ("number", 3))))
'(fn x: a. cons(x, y))(-(3))'
>>> [read_term("fn x:a.cons(x,y)") == ahead, read_term("- 3"), read_term("-3"), show_term(("times", ("plus", ("name", "a"), ("number", -1)), ("minus", ("name", "b"))))]
[True, ('minus', ('number', 3)), ('number', -3), '(a + -1) * -b']
>>> show_term(read_term("case a<b{u.nil(list a);w.fold(f,nil(list a),v)}"))
'case a < b {u. nil(list a); w. fold(f, nil(list a), v)}'
>>> read_term("f(a, b)")
raises InvalidText(line=1, column=4)
>>> read_term("let x = 1\n  x + 1")
raises InvalidText(line=2, column=3)
>>> read_kind("list a b")
raises InvalidText(line=1, column=8)
>>> read_kind("a ->\n")
raises InvalidText(line=2, column=1)
""",
    "relations": r"""
>>> from bykindalone.relations import are_related, behind, both_told, fillings, flipped, is_relation, is_tried, is_turn
>>> from bykindalone.relations import related_pairs, turned, way_apart
>>> num, unit, a = ("num",), ("unit",), ("var", "a")
>>> truth, row, yes, no = ("either", unit, unit), ("list", a), ("left", ()), ("right", ())
>>> signs = (("a", num, truth, ((-2, no), (0, yes), (3, yes), (3, no))),)
>>> [is_relation(signs), is_relation(signs + signs), fillings(signs)[0], is_turn(signs), is_tried(("fun", a, num)), is_tried(("fun", num, a))]
[True, False, (('a', ('num',)),), False, True, False]
>>> [are_related(row, signs, (0, 3), (yes, no)), way_apart(row, signs, (0, 3), (no, no)), way_apart(row, signs, (0,), ()), way_apart(("pair", num, a), signs, ("pair", 1, 0), ("pair", 1, no))]
[True, (0,), (), ('second',)]
>>> [related_pairs(("either", unit, a), signs)[:2], len(related_pairs(("pair", a, a), signs))]
[((('left', ()), ('left', ())), (('right', -2), ('right', ('right', ())))), 16]
>>> still, steady = ("fn", "x", num, ("number", 1)), ("fn", "x", truth, ("number", 1))
>>> [are_related(("fun", a, num), signs, still, steady), way_apart(("fun", a, num), signs, ("fn", "x", num, ("name", "x")), steady)]
[True, (('with', -2, ('right', ())),)]
>>> [flipped(signs)[0][3], [(first, last) for first, last in behind(signs, flipped(signs))[0][3]]]
[((('left', ()), 0), (('left', ()), 3), (('right', ()), -2), (('right', ()), 3)), [(-2, -2), (-2, 3), (0, 0), (0, 3), (3, -2), (3, 0), (3, 3)]]
>>> tens = (("a", num, num, ((1, 10), (2, 20))),)
>>> twice = ("fn", "l", row, ("fold", ("fn", "x", a, ("fn", "r", row, ("cons", ("name", "x"), ("cons", ("name", "x"), ("name", "r"))))), ("nil", a), ("name", "l")))
>>> [is_turn(tens), turned(("list", ("pair", a, num)), tens, (("pair", 1, 1), ("pair", 2, 5))), both_told(twice, tens, ((1, 2),), ((10, 20),))]
[True, (('pair', 10, 1), ('pair', 20, 5)), ((1, 1, 2, 2), (10, 10, 20, 20))]
>>> both_told(twice, tens, ((1, 2),), ((10, 10),))
raises NotRelated(index=0)
>>> are_related(row, (), (), ())
raises Unfilled(var='a')
>>> turned(row, tens, (1, 3))
raises InvalidValue(given=(1, 3))
""",
    "promises": r"""
>>> from bykindalone.promises import equation_text, promise_of, promise_text
>>> promise_of(("fun", a, num))
('all', 1, ('var', 'a'), ('by', 'a', ('x', 1), ('y', 1)), ('same', ('told', ('one',), ('x', 1)), ('told', ('two',), ('y', 1))))
>>> promise_text(("fun", row, row))
'(all x1, y1 of list a with (x1 and y1 are as long, each x2, y2 with x2 ~a y2) have (one(x1) and two(y1) are as long, each x3, y3 with x3 ~a y3))'
>>> [promise_text(("pair", a, truth)), promise_text(("either", unit, a)), equation_text(("fun", row, ("fun", num, a)))]
['(one.first ~a two.first and one.second = two.second)', '(one and two are left x1, y1 with x1 = y1 or right x1, y1 with x1 ~a y1)', 'turned one(x1)(x2) = two(turned x1)(x2)']
>>> equation_text(("fun", ("fun", a, a), a))
raises InvalidKind(given=('fun', ('fun', ('var', 'a'), ('var', 'a')), ('var', 'a')))
""",
    "putters": r"""
>>> from bykindalone.kinding import filled, kind_of
>>> from bykindalone.marks import alike_at, by_table, is_first, laid, marked, places, shape_of, table_of
>>> from bykindalone.meaning import told
>>> from bykindalone.putters import out_of_order, put_by, puts_in_order
>>> from bykindalone.answers import parting_answers, tested_alike, tested_answer
>>> num, unit, a = ("num",), ("unit",), ("var", "a")
>>> rows, truth, x, r, l, p = ("list", a), ("either", unit, unit), ("name", "x"), ("name", "r"), ("name", "l"), ("name", "p")
>>> twice = ("fn", "l", rows, ("fold", ("fn", "x", a, ("fn", "r", rows, ("cons", x, ("cons", x, r)))), ("nil", a), l))
>>> [kind_of((), twice), filled(rows, (("a", num),)), told(twice, (("a", num),), ((5, 7),))]
[('fun', ('list', ('var', 'a')), ('list', ('var', 'a'))), ('list', ('num',)), (5, 5, 7, 7)]
>>> kind_of((("x", a),), ("plus", x, ("number", 1)))
raises WrongTerm(place=(1,))
>>> shape = shape_of(twice, (("a", num),), ((5, 7),))
>>> [shape, marked(twice, shape), table_of(twice, shape), by_table(twice, shape, (0, 0, 1, 1), (("a", num),), (("a", (5, 7)),))]
[(((), ()),), ((0, 1),), (0, 0, 1, 1), (5, 5, 7, 7)]
>>> same = ("fn", "l", rows, l)
>>> [alike_at(twice, same, shape), alike_at(twice, same, ((),)), places(("pair", a, rows), ("pair", (), ((), ()))), is_first(("fun", ("fun", a, truth), rows)), laid(same, shape, (("a", num),), (("a", (5, 5)),))]
[False, True, (('a', 3),), False, ((5, 5),)]
>>> yes, no, t = ("left", ()), ("right", ()), ("name", "t")
>>> kept = ("fn", "t", ("fun", a, truth), ("fn", "l", rows, ("fold", ("fn", "x", a, ("fn", "r", rows, ("case", ("call", t, x), "u", ("cons", x, r), "v", r))), ("nil", a), l)))
>>> all_kept = ("fn", "t", ("fun", a, truth), same)
>>> [tested_answer(kept, (("test", 1), ((), (), ())), ((yes, no, yes),)), parting_answers(kept, all_kept, (("test", 1), ((), ()))), tested_alike(kept, all_kept, (("test", 1), ()))]
[(0, 2), ((('left', ()), ('right', ())),), True]
>>> state, s, q = ("either", unit, ("pair", a, rows)), ("name", "s"), ("name", "q")
>>> put = ("let", "p", ("call", ("name", "put"), ("pair", x, ("first", q))), ("right", unit, ("pair", ("first", p), ("cons", ("second", p), ("second", q)))))
>>> step = ("fn", "x", a, ("fn", "s", state, ("case", s, "u", ("right", unit, ("pair", x, ("nil", a))), "q", put)))
>>> out = ("case", ("fold", step, ("left", ("unit",), ("pair", a, rows)), l), "u", ("nil", a), "q", ("cons", ("first", q), ("second", q)))
>>> least_first = ("fn", "put", ("fun", ("pair", a, a), ("pair", a, a)), ("fn", "l", rows, out))
>>> [put_by(least_first, (3, 1, 2)), puts_in_order(least_first, 2), puts_in_order(least_first, 3), out_of_order(least_first, 3)]
[(1, 3, 2), True, False, (1, 0, 0)]
""",
    "certificates": r"""
>>> from bykindalone.certificates import certify_alike, certify_kind, certify_none, certify_order, certify_told
>>> from bykindalone.checker import accepts
>>> same, turned_row = read_term("fn l: list a. l"), read_term("fn l: list a. fold(fn x: a. fn f: list a -> list a. fn r: list a. f(cons(x, r)), fn r: list a. r, l)(nil(a))")
>>> [certify_kind(same), certify_kind(("name", "x")), certify_told(turned_row, (("a", num),), ((1, 2, 3),))[0][2][2]]
[(('kind', ('fn', 'l', ('list', ('var', 'a')), ('name', 'l')), ('fun', ('list', ('var', 'a')), ('list', ('var', 'a')))), ()), (('no kind', ('name', 'x')), ()), (3, 2, 1)]
>>> [certify_alike(same, turned_row, (((),),))[0][0], certify_alike(same, turned_row, (((), ()),))[1], accepts(*certify_alike(same, turned_row, (((), ()),)))]
['alike', ((('a', ('num',)),), (('a', (0, 1)),)), True]
>>> rows = ("fun", ("list", a), ("list", a))
>>> [certify_none(rows, (((("a", num),), ((1, 2),), (3,)),))[1], certify_none(rows, (((("a", num),), ((1, 2),), (2, 2)),))]
[(('a', ('num',), ('num',), ((1, 1), (2, 2))),), None]
>>> two_runs = (((("a", num),), ((1, 2),), (2, 1)), ((("a", unit),), (((), ()),), ((),)))
>>> [certify_none(rows, two_runs)[1][0][3], accepts(("some tells", rows, two_runs[:1]), turned_row), accepts(("some tells", rows, two_runs), turned_row)]
[((1, ()), (2, ())), True, False]
>>> put = read_term("fn p: (a, a) -> (a, a). fn l: list a. l")
>>> [certify_order(put, 1), certify_order(put, 2)[1], accepts(("out of order", put, 2), (7, 5)), accepts(("out of order", put, 2), (5, 5))]
[(('in order', ('fn', 'p', ('fun', ('pair', ('var', 'a'), ('var', 'a')), ('pair', ('var', 'a'), ('var', 'a'))), ('fn', 'l', ('list', ('var', 'a')), ('name', 'l'))), 1), ()), (1, 0), True, False]
""",
    "desk": r"""
>>> from bykindalone.desk import Desk
>>> desk = Desk()
>>> [desk.say("program twice = fn l: list a. fold(fn x: a. fn r: list a. cons(x, cons(x, r)), nil(a), l)"), desk.say("tell twice a = num | unit: [left(3), right(())]"), desk.say("tell twice: []")]
[('twice: list a -> list a',), ('[left(3), left(3), right(()), right(())]',), ('a is not filled',)]
>>> [desk.say("program one = fn l: list a. l"), desk.say("alike one twice: []"), desk.say("alike one twice: [()]"), desk.say("table twice: [(), ()]")]
[('one: list a -> list a',), ('alike',), ('unlike at [0]',), ('[0, 0, 1, 1]',)]
>>> [desk.say("program all = fn x: a. y"), desk.say("tell one a = num: [1;"), desk.say("tell two"), desk.say("look")]
[('no kind at 3',), ('bad text at 1 16',), ('no program two',), ('no such line',)]
>>> [desk.say("drop one"), desk.say("undo"), desk.say("undo"), desk.say("programs"), desk.say("promise twice")[0][:20]]
[('dropped one',), ('undone',), ('undone',), ('program twice = fn l: list a. fold(fn x: a. fn r: list a. cons(x, cons(x, r)), nil(a), l)',), '(all x1, y1 of list ']
""",
}


def steps_of(text):
    """The pairs of what is said and what is answered, None where nothing is."""
    steps = []
    for line in text.splitlines():
        if line.startswith(">>> "):
            steps.append([line[len(">>> "):], None])
        elif line.strip():
            steps[-1][1] = line
    return steps


def answer_to(said, names):
    """What is answered, in the document's way of writing it."""
    try:
        return repr(eval(said, names))
    except errors.KindError as error:
        told = ", ".join(f"{name}={value!r}" for name, value in vars(error).items())
        return f"raises {type(error).__name__}({told})"


class TestSessions(unittest.TestCase):
    def test_each_step_is_answered_as_it_stands_there(self):
        # The sessions go on from module to module.
        names = {}
        for module, text in SESSIONS.items():
            for said, answered in steps_of(text):
                with self.subTest(module, said=said):
                    if answered is None:
                        exec(said, names)
                    else:
                        self.assertEqual(answer_to(said, names), answered)

    def test_the_steps_are_all_told(self):
        counts = {}
        for module, text in SESSIONS.items():
            steps = steps_of(text)
            counts[module] = (len(steps), len([said for said, answered in steps if answered is not None]))
        self.assertEqual(counts, {
            "kinds": (5, 2), "values": (4, 2), "terms": (4, 2), "text": (10, 9), "relations": (17, 9), "promises": (5, 4), "putters": (24, 6), "certificates": (11, 5), "desk": (6, 4),
        })


if __name__ == "__main__":
    unittest.main()

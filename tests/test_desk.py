"""Points 4, 5, 6 and E3: the desk, its orders, and each of their answers."""

import unittest

from bykindalone.desk import Desk
from bykindalone.errors import InvalidLine
from bykindalone.text import read_kind, read_term
from grammar import Forms, add_value_rules
from things import NUM, odd_things

T, K = read_term, read_kind
SAME = "fn l: list a. l"
TWICE = "fn l: list a. fold(fn x: a. fn r: list a. cons(x, cons(x, r)), nil(a), l)"
BACK = "fn l: list a. fold(fn x: a. fn f: list a -> list a. fn r: list a. f(cons(x, r)), fn r: list a. r, l)(nil(a))"
PUT_TWO = (
    "fn p: (a, a) -> (a, a). fn l: list a. case fold(fn x: a. fn s: unit | (a, list a). case s {u. right(unit, (x, nil(a))); "
    "q. let t = p((x, first(q))) in right(unit, (first(t), cons(second(t), second(q))))}, left((), (a, list a)), l) "
    "{u. nil(a); q. cons(first(q), second(q))}"
)
# What the desks of most tests keep.
KEPT = (
    ("same", SAME), ("twice", TWICE), ("back", BACK), ("three", "3"), ("none", "nil(num -> num)"), ("bare", "nil(a -> num)"),
    ("empty", "nil(b)"), ("first2", "fn x: a. fn y: b. x"),
    ("apply", "fn f: a -> num. fn x: a. f(x)"), ("lost", "fn x: a. nil(b)"), ("gone", "fn x: a. nil(b -> a)"),
    ("keeps", "fn t: a -> unit | unit. fn l: list a. fold(fn x: a. fn r: list a. case t(x) {u. cons(x, r); v. r}, nil(a), l)"),
    ("mixed", "fn n: num. fn e: a | b. fn l: list (a, b). (n + 1, (e, l))"),
    ("mixed2", "fn n: num. fn e: a | b. fn l: list (a, b). (n + 1, (e, nil((a, b))))"),
    ("put", "fn p: (a, a) -> (a, a). fn l: list a. l"), ("put2", PUT_TWO),
    ("deep6", "fn x: list (list (list (list unit))). x"), ("deep7", "fn x: list (list (list (list (list unit)))). x"),
    ("unit1", "fn u: unit. u"), ("one", "fn x: c. x"), ("two", "fn x: c. fn y: c. y"), ("two1", "fn x: c. fn y: c. x"),
    ("answer", "fn n: num. n < 3"), ("side", "fn e: num | unit. (e, fn x: num. x)"),
    ("asks", "fn f: (a -> b) -> unit. fn x: b. f(fn y: a. x)"),
)


def full_desk():
    desk = Desk()
    for name, text in KEPT:
        desk.say(f"program {name} = {text}")
    return desk


class Lines(unittest.TestCase):
    def each(self, rows, desk=None):
        desk = desk or full_desk()
        before = desk.programs()
        for line, answer in rows:
            with self.subTest(line):
                told = desk.say(line)
                self.assertIs(type(told), tuple)
                self.assertEqual(told, (answer,))
                self.assertEqual(desk.say(line=line), (answer,))
                self.assertEqual(desk.programs(), before)


class TestLines(Lines):
    def test_lines_that_are_none(self):
        self.each([(line, "no such line") for line in (
            "", " ", "look", "undo ", " undo", "undo undo", "undo\n", "programs ", "programs same", " programs", "program",
            "drop", "tell", "table", "alike", "order", "promise", "Program x = 1", "TELL same", "tell\tsame",
            "program\nx = 1", "drop\nsame", "tells same", "tel same", "# tell same", " tell same", "\ntell same", "undo#", "same",
            "say same", "program=", "drop#same", "\n", "order\t",
        )])

    def test_things_that_are_no_lines(self):
        desk = Desk()
        for thing in odd_things() + [b"undo", ["undo"], ("undo",)]:
            if not isinstance(thing, str):
                for ask in (lambda: desk.say(thing), lambda: desk.say(line=thing)):
                    with self.assertRaises(InvalidLine) as caught:
                        ask()
                    self.assertIs(caught.exception.given, thing)

    def test_blanks_and_remarks(self):
        self.each((
            ("tell   twice   a=num:[1]", "[1, 1]"), ("tell twice#: [\n a = num # the kind\n: [1,\n2] # it is\n", "[1, 1, 2, 2]"),
            ("tell \n twice\na\n=\nnum\n:\n[\n]", "[]"),
            ("promise \n\n unit1 # of a unit", "(all x1, y1 of unit with x1 = y1 have one(x1) = two(y1))"),
            ("table twice:[(),()]", "[0, 0, 1, 1]"), ("order put 2#", "not in order: [1, 0]"),
            ("alike #\nsame\nback#\n:[ ]", "alike"), ("tell three # no more", "3"), ("tell three\n", "3"),
        ))


class TestKeeping(Lines):
    def test_programs_are_kept_and_shown(self):
        desk = Desk()
        self.assertEqual(desk.programs(), ())
        self.assertEqual(desk.say("programs"), ())
        rows = (
            ("program same = fn l:list a.l", "same: list a -> list a"), ("program x = 1 + 2", "x: num"),
            ("program y=-3", "y: num"), ("program a = nil ( a )", "a: list a"), ("program\tz = 1", None),
            ("program tell = ()", "tell: unit"),
            ("program undo = fn x: a. fn y: b. (y, x)", "undo: a -> b -> (b, a)"), ("program x2345678 = (1)(2)", None),
        )
        for line, answer in rows:
            self.assertEqual(desk.say(line), (answer,) if answer else desk.say(line))
        names = [name for name, _ in desk.programs()]
        self.assertEqual(names, ["same", "x", "y", "a", "tell", "undo"])
        self.assertEqual(desk.programs(), (
            ("same", T(SAME)), ("x", T("1 + 2")), ("y", ("number", -3)), ("a", T("nil(a)")), ("tell", ("unit",)),
            ("undo", T("fn x: a. fn y: b. (y, x)"))))
        self.assertEqual(desk.say("programs"), (
            "program same = fn l: list a. l", "program x = 1 + 2", "program y = -3", "program a = nil(a)", "program tell = ()",
            "program undo = fn x: a. fn y: b. (y, x)"))

    def test_what_is_no_program(self):
        deep = "- " * 15
        wide = "((1, 2), (3, 4))"
        for _ in range(4):
            wide = f"({wide}, {wide})"
        self.each((
            ("program ", "bad text at 1 1"), ("program  ", "bad text at 1 2"), ("program x", "bad text at 1 2"),
            ("program x ", "bad text at 1 3"), ("program x =", "bad text at 1 4"), ("program x = ", "bad text at 1 5"),
            ("program fn = 1", "bad text at 1 1"),
            ("program 1 = 1", "bad text at 1 1"), ("program x 1", "bad text at 1 3"), ("program x == 1", "bad text at 1 3"),
            ("program x = 1 2", "bad text at 1 7"), ("program x =\n y z", "bad text at 2 4"),
            ("program x = 1\t", "bad text at 1 6"),
            ("program x = let y = 1", "bad text at 1 14"), ("program x = (1", "bad text at 1 7"),
            ("program x = 1)", "bad text at 1 6"), ("program X = 1", "bad text at 1 1"),
            ("program abcdefghi = 1", "bad text at 1 9"), ("program x = 01", "bad text at 1 6"),
            ("program x = y @", "bad text at 1 7"), ("program x = fn y: d. y", "bad text at 1 11"),
            ("program x =\n# y", "bad text at 2 4"), ("program x = y\n", "no kind at the whole"),
            ("program x = 1\n\n 2", "bad text at 3 2"), ("program same", "bad text at 1 5"),
            ("program x = y", "no kind at the whole"), ("program x = fn y: a. y + 1", "no kind at 3.1"),
            ("program x = (1, (2, case 1 {u. z; v. z}))", "no kind at 2.2.1"), ("program x = fold(1, 2, 3)", "no kind at 1"),
            ("program same = y", "no kind at the whole"),
            (f"program x = {deep}y", "no kind at " + ".".join("1" * 15)), (f"program x = - {deep}y", "not as written"),
            (f"program x = - {deep}(1)", "not as written"),
            ("program x = nil(list (list (list (list (list (list num))))))", "not as written"),
            (f"program x = {wide}", "not as written"), (f"program x = {wide} +", f"bad text at 1 {len(wide) + 7}"),
            (f"program x = {wide} + y", "not as written"), (f"program x = {'(' * 90}1{')' * 90} + ()", "no kind at 2"),
        ))

    def test_as_deep_as_written(self):
        desk = Desk()
        self.assertEqual(desk.say("program x = " + "- " * 15 + "1"), ("x: num",))
        self.assertEqual(desk.say("program y = nil(list (list (list (list (list num)))))"),
            ("y: list list list list list list num",))

    def test_names_are_put_again_in_their_places(self):
        desk = Desk()
        for line in ("program x = 1", "program y = 2", "program z = 3"):
            desk.say(line)
        self.assertEqual(desk.say("program y = ()"), ("y: unit",))
        self.assertEqual(desk.say("programs"), ("program x = 1", "program y = ()", "program z = 3"))
        self.assertEqual(desk.say("drop y"), ("dropped y",))
        self.assertEqual(desk.say("programs"), ("program x = 1", "program z = 3"))
        self.assertEqual(desk.say("tell y"), ("no program y",))
        desk.say("program y = 4")
        self.assertEqual(desk.say("programs"), ("program x = 1", "program z = 3", "program y = 4"))
        desk.say("program x = 5")
        self.assertEqual(desk.programs(), (("x", ("number", 5)), ("z", ("number", 3)), ("y", ("number", 4))))

    def test_dropping(self):
        self.each((
            ("drop ", "bad text at 1 1"), ("drop x", "no program x"), ("drop x y", "no program x"), ("drop x @", "no program x"),
            ("drop fn", "bad text at 1 1"), ("drop same x", "bad text at 1 6"), ("drop same @", "bad text at 1 6"),
            ("drop same.", "bad text at 1 5"), ("drop 1", "bad text at 1 1"), ("drop abcdefghi", "bad text at 1 9"),
            ("drop samE", "no program sam"), ("drop same1", "no program same1"),
        ))
        desk = full_desk()
        self.assertEqual(desk.say("drop same # it"), ("dropped same",))
        self.assertEqual(desk.say("drop same"), ("no program same",))
        self.assertEqual([name for name, _ in desk.programs()], [name for name, _ in KEPT][1:])

    def test_undoing(self):
        desk = Desk()
        self.assertEqual(desk.say("undo"), ("nothing to undo",))
        states = [desk.programs()]
        for line in ("program x = 1", "program y = 2", "program x = 3", "program x = 3", "drop x", "program x = 4", "drop y",
            "drop x", "program z = ()"):
            desk.say(line)
            states.append(desk.programs())
            # What isn't done isn't undone.
            for other in ("program w = v", "program w =", "drop w", "tell x", "programs", "look", "promise y", "drop y y"):
                desk.say(other)
                self.assertEqual(desk.programs(), states[-1])
        self.assertEqual(len(states), 10)
        while len(states) > 1:
            states.pop()
            self.assertEqual(desk.say("undo"), ("undone",))
            self.assertEqual(desk.programs(), states[-1])
        for _ in range(3):
            self.assertEqual(desk.say("undo"), ("nothing to undo",))
        desk.say("program x = 1")
        desk.say("program y = 2")
        self.assertEqual([desk.say("undo"), desk.say("program z = 3"), desk.say("undo"), desk.say("undo"), desk.say("undo")],
            [("undone",), ("z: num",), ("undone",), ("undone",), ("nothing to undo",)])
        self.assertEqual(desk.programs(), ())


class TestPromise(Lines):
    def test_each_answer(self):
        self.each((
            ("promise same", "(all x1, y1 of list a with (x1 and y1 are as long, each x2, y2 with x2 ~a y2) have (one(x1) and two(y1) are as long, each x3, y3 with x3 ~a y3))"), ("promise three", "one = two"),
            ("promise deep6", "(all x1, y1 of list list list list unit with x1 = y1 have one(x1) = two(y1))"),
            ("promise deep7", "too deep"), ("promise deep7 #", "too deep"), ("promise deep7 x", "bad text at 1 7"),
            ("promise ", "bad text at 1 1"),
            ("promise x", "no program x"), ("promise x x", "no program x"), ("promise same same", "bad text at 1 6"),
            ("promise same:", "bad text at 1 5"), ("promise in", "bad text at 1 1"),
            ("promise empty", "(one and two are as long, each x1, y1 with x1 ~b y1)"),
        ))


class TestTell(Lines):
    def test_each_answer(self):
        self.each((
            ("tell three", "3"), ("tell same a = num: [1, 2]", "[1, 2]"),
            ("tell twice a = num | unit: [left(3), right(())]", "[left(3), left(3), right(()), right(())]"),
            ("tell same a = list num: [[], [1]]", "[[], [1]]"),
            ("tell first2 b = unit, a = num: -4; ()", "-4"), ("tell first2 a = num, b = unit, c = num: 7; ()", "7"),
            ("tell first2 c = unit, a = (num, num), b = num: (1, 2); 3", "(1, 2)"), ("tell empty b = num", "[]"),
            ("tell empty a = num, b = num", "[]"),
            ("tell apply a = num: fn x: num. x * x; 5", "25"), ("tell apply a = unit: fn x: unit. 4; ()", "4"),
            ("tell apply a = num: fn x: num. case x < 3 {u. 1; v. 2}; 5", "2"),
            ("tell apply a = num: let y = 2 in fn x: num. x + y; 5", "7"),
            ("tell keeps a = num: fn x: num. x < 3; [4, 1, 2]", "[1, 2]"), ("tell answer: 2", "left(())"),
            ("tell answer b = unit: 3", "right(())"), ("tell unit1: ( )", "()"), ("tell lost a = num, b = unit: 3", "[]"),
            ("tell mixed a = num, b = unit: 4; left(5); [(1, ()), (2, ())]", "(5, (left(5), [(1, ()), (2, ())]))"),
            ("tell asks a = num, b = unit: fn g: num -> unit. g(3); ()", "()"),
        ))

    def test_texts_that_go_wrong(self):
        self.each((
            ("tell ", "bad text at 1 1"), ("tell 1", "bad text at 1 1"), ("tell x", "no program x"),
            ("tell x: @", "no program x"), ("tell same", "bad text at 1 5"), ("tell same ", "bad text at 1 6"),
            ("tell same:", "a is not filled"), ("tell same :[1]", "a is not filled"),
            ("tell same a", "bad text at 1 7"), ("tell same a = ", "bad text at 1 10"), ("tell same a num", "bad text at 1 8"),
            ("tell same a: []", "bad text at 1 7"), ("tell same a = num", "bad text at 1 13"),
            ("tell same a = num [1]", "bad text at 1 14"),
            ("tell same a = num, : [1]", "bad text at 1 15"), ("tell same a = num b = num: []", "bad text at 1 14"),
            ("tell same a = num; []", "bad text at 1 13"), ("tell same d = num: []", "bad text at 1 6"),
            ("tell same a = num, d = num: []", "bad text at 1 15"), ("tell same x", "bad text at 1 6"),
            ("tell same num = a: []", "bad text at 1 6"), ("tell same a == num: []", "bad text at 1 8"),
            ("tell same a = num ->: []", "bad text at 1 16"), ("tell same a = num - > num: []", "bad text at 1 14"),
            ("tell same a = 3: []", "bad text at 1 10"),
            ("tell same a = num: [1;", "bad text at 1 17"), ("tell same a = num: 1", "bad text at 1 15"),
            ("tell same a = num: [()]", "bad text at 1 16"), ("tell same a = num: [1] [2]", "bad text at 1 19"),
            ("tell same a = num: [1]; [2]", "bad text at 1 18"), ("tell same a = num: ", "bad text at 1 15"),
            ("tell same a = num: [1] @", "bad text at 1 19"), ("tell three:", "bad text at 1 6"),
            ("tell three: 3", "bad text at 1 6"), ("tell three 3", "bad text at 1 7"),
            ("tell three a = num:", "bad text at 1 14"), ("tell three;", "bad text at 1 6"),
            ("tell three three", "bad text at 1 7"),
            ("tell first2 a = num, b = num: 1", "bad text at 1 27"), ("tell first2 a = num, b = num: 1, 2", "bad text at 1 27"),
            ("tell first2 a = num, b = num: 1: 2", "bad text at 1 27"),
            ("tell first2 a = num, b = num: 1; 2; 3", "bad text at 1 30"),
            ("tell first2 a = num, b = num: 1; x", "bad text at 1 29"),
            ("tell first2 a = num,\nb = num:\n 1; x", "bad text at 3 5"),
            ("tell apply a = num: fn x: num. x", "bad text at 1 28"), ("tell apply a = num: fn x: num. ; 4", "bad text at 1 27"),
            ("tell apply a = num: fn x: num. x; ()", "bad text at 1 30"), ("tell apply a = num: ; 4", "bad text at 1 16"),
            ("tell apply a = num: fn x: num. x, 4", "bad text at 1 28"), ("tell unit1: 3", "bad text at 1 8"),
            ("tell answer: right(())", "bad text at 1 9"), ("tell same a = num: [abcdefghi]", "bad text at 1 24"),
            ("tell sameab", "no program sameab"), ("tell sameabcde", "bad text at 1 9"),
            ("tell same a = num: left(1)", "bad text at 1 15"),
            ("tell same a = unit | num: [right(1), left(1)]", "bad text at 1 38"),
        ))

    def test_fillings(self):
        self.each((
            ("tell same a = b: []", "no filling of a"), ("tell same a = a: @", "no filling of a"),
            ("tell same a = num -> num: []", "no filling of a"), ("tell same a = num, a = num: []", "no filling of a"),
            ("tell same a = num, b = unit, a = num: []", "no filling of a"),
            ("tell same b = list (num -> num)", "no filling of b"), ("tell same c = (num, c) a", "no filling of c"),
            ("tell same a = num, a = ", "bad text at 1 19"), ("tell same a = num, a = num", "no filling of a"),
            ("tell same a = num, a = num ->", "bad text at 1 25"), ("tell same a = b @", "no filling of a"),
            ("tell same a = b |", "bad text at 1 13"), ("tell three b = a", "no filling of b"),
            ("tell three b = b", "no filling of b"), ("tell same b = num: []", "a is not filled"),
            ("tell same b = num: @", "a is not filled"), ("tell same b = num", "bad text at 1 13"),
            ("tell first2: 1; 2", "a is not filled"),
            ("tell first2 b = num: 1; 2", "a is not filled"), ("tell first2 a = num: 1; 2", "b is not filled"),
            ("tell first2 a = num: 1;", "b is not filled"), ("tell first2 a = num: 1; @", "b is not filled"),
            ("tell first2 a = num: x; 2", "bad text at 1 17"), ("tell mixed a = num: 1; left(2); []", "b is not filled"),
            ("tell mixed b = num: 1; left(2); []", "a is not filled"), ("tell mixed: 1; left(2); []", "a is not filled"),
            ("tell mixed: x", "bad text at 1 8"), ("tell apply: fn x: num. x; 3", "a is not filled"),
            ("tell asks b = num: 3", "a is not filled"), ("tell asks: 3", "a is not filled"),
            ("tell asks a = num: 3", "b is not filled"),
        ))

    def test_arguments_that_are_none(self):
        self.each((
            ("tell apply a = num: fn x: unit. 3; 4", "argument 0 is none of num -> num"),
            ("tell apply a = num: 3; 4", "argument 0 is none of num -> num"),
            ("tell apply a = num: y; 4", "argument 0 is none of num -> num"),
            ("tell apply a = num: fn x: a. 3; 4", "argument 0 is none of num -> num"),
            ("tell apply a = num: 3 @", "argument 0 is none of num -> num"),
            ("tell apply a = num: 3, 4", "argument 0 is none of num -> num"),
            ("tell apply a = num: 3", "argument 0 is none of num -> num"),
            ("tell apply a = num: fn x: num. " + "- " * 15 + "x; 4", "argument 0 is none of num -> num"),
            ("tell apply a = num: fn x: num. " + "- " * 14 + "x; 4", "4"),
            ("tell asks a = num, b = list unit: 3; []", "argument 0 is none of (num -> list unit) -> unit"),
            ("tell keeps a = num | unit: fn x: num. left((), unit); []", "argument 0 is none of num | unit -> unit | unit"),
        ))
        desk = full_desk()
        desk.say("program late = fn x: a. fn f: a -> a. f(x)")
        self.assertEqual(desk.say("tell late a = num: 3; fn x: unit. x"), ("argument 1 is none of num -> num",))
        self.assertEqual(desk.say("tell late a = num: 3; fn x: num. x + 1"), ("4",))

    def test_what_is_left(self):
        self.each((
            ("tell none", "tells no data"), ("tell none a = num", "tells no data"), ("tell bare", "a is not filled"),
            ("tell bare b = num", "a is not filled"), ("tell bare a = num", "tells no data"), ("tell empty", "b is not filled"),
            ("tell empty a = num", "b is not filled"),
            ("tell lost a = num: 3", "b is not filled"), ("tell gone a = num: 3", "b is not filled"),
            ("tell gone a = num, b = num: 3", "tells no data"), ("tell none:", "bad text at 1 5"),
            ("tell lost a = num: 3 @", "bad text at 1 17"), ("tell side: left(3)", "tells no data"),
            ("tell gone b = num: 3", "a is not filled"),
        ))


class TestTableAndAlike(Lines):
    def test_tables(self):
        self.each((
            ("table twice: [(), ()]", "[0, 0, 1, 1]"), ("table same: []", "[]"),
            ("table mixed: 4; left(()); [((), ())]", "(5, (left(0), [(1, 0)]))"),
            ("table mixed: -4; right(()); [((), ()), ((), ())]", "(-3, (right(0), [(0, 1), (1, 2)]))"), ("table lost: ()", "[]"),
            ("table first2: (); ()", "0"),
            ("table answer: 2", "left(())"), ("table unit1: ()", "()"), ("table two: (); ()", "1"),
            ("table three", "no first kind"), ("table keeps: fn", "no first kind"), ("table keeps @", "no first kind"),
            ("table empty", "no first kind"), ("table apply", "no first kind"), ("table gone: ()", "no first kind"),
            ("table ", "bad text at 1 1"), ("table x", "no program x"), ("table x @", "no program x"),
            ("table same", "bad text at 1 5"), ("table same [()]", "bad text at 1 6"), ("table same: [1]", "bad text at 1 8"),
            ("table same: [()] []", "bad text at 1 12"), ("table same: [()]; []", "bad text at 1 11"),
            ("table first2: ()", "bad text at 1 11"), ("table first2: (), ()", "bad text at 1 11"),
            ("table first2: (); (); ()", "bad text at 1 15"), ("table same a = unit: []", "bad text at 1 6"),
            ("table mixed: left(())", "bad text at 1 8"),
            ("table mixed: 4; (); []", "bad text at 1 11"), ("table same:", "bad text at 1 6"),
            ("table same: [(),\n]", "bad text at 2 1"),
        ))

    def test_alike_and_unlike(self):
        self.each((
            ("alike same twice: []", "alike"), ("alike same twice: [()]", "unlike at [0]"), ("alike same back: [()]", "alike"),
            ("alike same back: [(), ()]", "unlike at [0, 1]"), ("alike same same: [(), (), ()]", "alike"),
            ("alike mixed mixed2: 7; right(()); [((), ())]", "unlike at 7; right(0); [(0, 1)]"),
            ("alike mixed mixed2: 7; right(()); []", "alike"), ("alike two two1: (); ()", "unlike at 0; 1"),
            ("alike mixed2 mixed: 7; left(()); [((), ()), ((), ())]", "unlike at 7; left(0); [(1, 0), (2, 1)]"),
            ("alike ", "bad text at 1 1"), ("alike x", "no program x"), ("alike x same", "no program x"),
            ("alike same", "bad text at 1 5"), ("alike same x", "no program x"), ("alike same x @", "no program x"),
            ("alike same: []", "bad text at 1 5"), ("alike same, same: []", "bad text at 1 5"),
            ("alike same one", "unlike kinds"),
            ("alike same one @", "unlike kinds"), ("alike same keeps", "unlike kinds"), ("alike three empty", "unlike kinds"),
            ("alike three three", "no first kind"), ("alike three three @", "no first kind"),
            ("alike keeps keeps: 1", "no first kind"), ("alike put put2", "no first kind"), ("alike apply same", "unlike kinds"),
            ("alike same twice", "bad text at 1 11"), ("alike same twice [()]", "bad text at 1 12"),
            ("alike same twice: [1]", "bad text at 1 14"), ("alike same twice: [()] @", "bad text at 1 18"),
            ("alike same twice: [()]; []", "bad text at 1 17"), ("alike two two1: ()", "bad text at 1 13"),
            ("alike same fn", "bad text at 1 6"),
            ("alike same\ntwice:\n[ () ( ]", "bad text at 3 6"),
        ))


class TestOrder(Lines):
    def test_each_answer(self):
        self.each((
            ("order put 0", "in order"), ("order put 1", "in order"), ("order put 2", "not in order: [1, 0]"),
            ("order put 10", "not in order: [0, 0, 0, 0, 0, 0, 0, 0, 1, 0]"), ("order put2 2", "in order"),
            ("order put2 3", "not in order: [1, 0, 0]"), ("order put 11", "no such length"), ("order put -1", "no such length"),
            ("order put 1" + "0" * 300, "no such length"), ("order same 2", "no putter"), ("order same 11", "no putter"),
            ("order three -1", "no putter"), ("order ", "bad text at 1 1"), ("order x", "no program x"),
            ("order x 2", "no program x"), ("order put", "bad text at 1 4"), ("order put x", "bad text at 1 5"),
            ("order put - 1", "bad text at 1 5"), ("order put 2 2", "bad text at 1 7"), ("order same 2 2", "bad text at 1 8"),
            ("order put 02", "bad text at 1 6"), ("order put: 2", "bad text at 1 4"), ("order put 11 @", "bad text at 1 8"),
            ("order same x", "bad text at 1 6"), ("order put 1" + "0" * 400, "bad text at 1 405"),
            ("order put 2x", "bad text at 1 6"),
        ))


def forms_of(way, rules=(), kinds=()):
    """The forms of a rest: a way of forms and tokens, V0, V1 .. being values of the kinds."""
    forms = Forms("KIND")
    for name, ways in rules:
        forms.rules[name] = [tuple(part.split()) for part in ways]
    for at, kind in enumerate(kinds):
        forms.rules[f"V{at}"] = [(add_value_rules(forms.rules, kind),)]
    forms.rules["REST"] = [tuple(way.split())]
    forms.rows = {(): [forms.closed([("START", ("REST",), 0, 0)], [])]}
    forms.form = "REST"
    return forms


def bent(text, start):
    """The text with one sign left out, put in or changed behind a place, and cut off there."""
    signs = ["@", " ", "\n", "#", "a", "x", "0", "7", "-", "->", "=", "==", ":", ";", ",", ".", "(", ")", "[", "]", "{", "|", "+",
        "<", "fn ", " in ", "left", "unit"]
    for at in range(start, len(text) + 1):
        yield text[:at]
        yield text[:at] + text[at + 1:]
        for sign in signs:
            yield text[:at] + sign + text[at:]
            yield text[:at] + sign + text[at + 1:]


class TestWhereTextsGoWrong(unittest.TestCase):
    """Where a bent rest goes wrong, seen from its forms, apart from the program."""

    FILLS = (("FILLS", ("VAR = KIND", "FILLS , VAR = KIND")),)

    def each(self, order, text, start, forms, others, least):
        # Others are beginnings of answers that may be told ahead of what goes wrong behind.
        desk = full_desk()
        counts = [0, 0]
        for rest in bent(text, start):
            (answer,) = desk.say(f"{order} {rest}")
            if order == "program":
                desk.say("undo")
            if answer.startswith(others):
                continue
            place = forms.refused_at(rest)
            self.assertEqual(answer.startswith("bad text at "), place is not None, (rest, answer))
            if place is not None:
                self.assertEqual(answer, f"bad text at {place[0]} {place[1]}", rest)
            counts[place is None] += 1
        self.assertGreater(counts[0], least)
        self.assertGreater(counts[1], 10)

    def test_programs(self):
        forms = forms_of("NAME = TERM")
        self.each("program", "x = fn l: list a. (l, 3)", 0, forms, ("undone",), 500)
        self.each("program", "y1 = case x < 2 {u. -u; v. f(v)}", 0, forms, ("undone",), 500)

    def test_names_and_numbers(self):
        self.each("order", "put 10 # it", 3, forms_of("OTHER NUMBER"), ("no program",), 100)
        self.each("promise", "unit1 # of it\n", 5, forms_of("OTHER"), ("no program",), 80)

    def test_shapes(self):
        self.each("table", "same: [(), ()]", 4, forms_of("OTHER : V0", (), (K("list unit"),)), ("no program",), 150)
        shapes = (NUM, K("unit | unit"), K("list (unit, unit)"))
        self.each("table", "mixed: 4; left(()); [((), ())]", 5, forms_of("OTHER : V0 ; V1 ; V2", (), shapes), ("no program",),
            400)
        self.each("alike", "two two1: (); ()", 8, forms_of("OTHER OTHER : V0 ; V1", (), (K("unit"), K("unit"))),
            ("no program", "unlike kinds", "no first"), 100)

    def test_arguments(self):
        way = "OTHER a = num : V0"
        self.each("tell", "same a = num: [1, -2]", 13, forms_of(way, (), (K("list num"),)), ("no filling", "a is not"), 100)
        way = "OTHER a = num , b = unit : V0 ; V1 ; V2"
        kinds = (NUM, K("num | unit"), K("list (num, unit)"))
        self.each("tell", "mixed a = num, b = unit: 4; left(5); [(1, ())]", 25, forms_of(way, (), kinds),
            ("no filling", "a is not", "b is not"), 400)
        way = "OTHER a = num : TERM ; V0"
        self.each("tell", "apply a = num: fn x: num. x * 2; 5", 15, forms_of(way, (), (NUM,)), ("argument 0 is none",), 300)

    def test_fillings(self):
        way = "OTHER FILLS : V0 ; V1"
        self.each("tell", "first2 b = num, a = num: 1; 2", 6, forms_of(way, self.FILLS, (NUM, NUM)),
            ("no program", "no filling", "a is not", "b is not"), 250)
        self.each("tell", "three a = list num, b = unit", 5,
            forms_of("WHOLE", self.FILLS + (("WHOLE", ("OTHER", "OTHER FILLS")),)), ("no program", "no filling"), 200)


class TestRowsOfLines(unittest.TestCase):
    POOL = (
        "program x = fn l: list a. l", f"program y = {TWICE}", f"program x = {BACK}", "program y = 3",
        "program z = fn n: num. n * -(2)", "program z = fn p: (a, b). (second(p), first(p))", f"program w = {PUT_TWO}",
        "program v = fn x: num -> num. -x(3) * (x(1) + 2)",
        "drop x", "drop y", "drop w", "undo", "undo", "program x = y", "program x =", "program y = (1, (2, left(3, a)))",
        "drop v x",
    )
    ASKED = (
        "programs", "look", "promise x", "promise y", "promise z", "promise w", "tell x a = num: [3, 1]", "tell y a = unit: [()]",
        "tell y", "tell z: 4", "tell z a = num, b = unit: (1, ())", "table x: [(), ()]", "table z: ((), ())",
        "alike x y: [(), ()]", "order w 2", "order w 3", "order x 1",
        "tell v: fn x: num. x * x", "tell y a = num", "alike x x: [()]", "tell w a = num: fn p: (num, num). p; [2, 1]",
    )

    def test_a_new_desk_told_what_programs_answers_answers_alike(self):
        for number in range(1, 120):
            desk, drawn = Desk(), number * 2654435761
            for _ in range(14):
                drawn = drawn * 6364136223846793005 + 1442695040888963407
                desk.say(self.POOL[(drawn >> 33) % len(self.POOL)])
            other = Desk()
            for line in desk.say("programs"):
                self.assertEqual(len(other.say(line)), 1)
            self.assertEqual(other.programs(), desk.programs())
            for line in self.ASKED + self.POOL[:11] + self.ASKED + self.POOL[13:] + self.ASKED:
                self.assertEqual(other.say(line), desk.say(line), line)
            self.assertEqual(other.programs(), desk.programs())

    def test_desks_keep_their_own(self):
        one, two = Desk(), Desk()
        one.say("program x = 1")
        self.assertEqual(two.programs(), ())
        self.assertEqual(two.say("undo"), ("nothing to undo",))
        self.assertEqual(one.programs(), (("x", ("number", 1)),))


if __name__ == "__main__":
    unittest.main()

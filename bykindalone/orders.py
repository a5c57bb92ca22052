"""The orders of the desk that have a rest (point E3).

An order takes what is kept, a tuple of pairs of a name and a program, and a reader of the rest;
it tells what is kept from now on, and the answer.
"""

from bykindalone.errors import WrongTerm
from bykindalone.kinding import filled, kind_of
from bykindalone.kinds import depth_of_kind, is_closed_kind, is_data_kind, variables_of
from bykindalone.marks import alike_at, table_of
from bykindalone.meaning import told_of_things
from bykindalone.programs import asked_and_told, is_thing
from bykindalone.promises import DEEPEST_PROMISED, promise_text
from bykindalone.putters import is_length, is_putting_kind, out_of_order
from bykindalone.reading import Reader
from bykindalone.shapes import ALL_NUM, ALL_UNIT, is_first_kind, marked_by
from bykindalone.terms import is_written
from bykindalone.text import show_kind, show_value

NUMBERS = ("list", ("num",))


class Refusal(Exception):
    """Something is wrong with the rest of a line: the text that tells it."""

    def __init__(self, answer):
        self.answer = answer


def do_program(kept, reader):
    """Keeps a program by a name."""
    name = reader.take("NAME")
    reader.take("=")
    term = reader.take("TERM")
    reader.take("END")
    if not is_written(term):
        raise Refusal("not as written")
    try:
        kind = kind_of((), term)
    except WrongTerm as wrong:
        path = ".".join([str(at) for at in wrong.place])
        raise Refusal(f"no kind at {path or 'the whole'}")
    answer = (f"{name}: {show_kind(kind)}",)
    if name not in [known for known, _ in kept]:
        return kept + ((name, term),), answer
    return tuple([(known, term if known == name else program) for known, program in kept]), answer


def do_drop(kept, reader):
    """Keeps a program no more."""
    name, _ = _take_kept(kept, reader)
    reader.take("END")
    return tuple([pair for pair in kept if pair[0] != name]), (f"dropped {name}",)


def do_promise(kept, reader):
    """Tells the promise of a program's kind."""
    _, program = _take_kept(kept, reader)
    reader.take("END")
    kind = kind_of((), program)
    if depth_of_kind(kind) > DEEPEST_PROMISED:
        raise Refusal("too deep")
    return kept, (promise_text(kind),)


def do_tell(kept, reader):
    """Tells what a program tells under a filling of arguments."""
    _, program = _take_kept(kept, reader)
    kind = kind_of((), program)
    left = filled(kind, _take_filling(reader))
    arguments = []
    while left[0] == "fun":
        reader.take(";" if arguments else ":")
        arguments.append(_take_argument(reader, len(arguments), left[1]))
        left = left[2]
    reader.take("END")
    _refuse_variables(left)
    if not is_data_kind(left):
        raise Refusal("tells no data")
    return kept, (show_value(left, told_of_things(kind, program, arguments)),)


def do_table(kept, reader):
    """Tells the table of a program at a shape."""
    _, program = _take_kept(kept, reader)
    kind = kind_of((), program)
    _refuse_no_first(kind)
    shape = _take_shape(reader, kind)
    _, told = asked_and_told(kind)
    return kept, (show_value(filled(told, ALL_NUM), table_of(program, shape)),)


def do_alike(kept, reader):
    """Tells whether two programs are alike at a shape."""
    _, one = _take_kept(kept, reader)
    _, two = _take_kept(kept, reader)
    kind = kind_of((), one)
    if kind_of((), two) != kind:
        raise Refusal("unlike kinds")
    _refuse_no_first(kind)
    shape = _take_shape(reader, kind)
    if alike_at(one, two, shape):
        return kept, ("alike",)
    asked, _ = asked_and_told(kind)
    at_marks = marked_by(kind, shape)
    texts = [show_value(filled(part, ALL_NUM), argument) for part, argument in zip(asked, at_marks)]
    return kept, ("unlike at " + "; ".join(texts),)


def do_order(kept, reader):
    """Tells whether a program puts all lists of a length in order."""
    _, program = _take_kept(kept, reader)
    length = reader.take("NUMBER")
    reader.take("END")
    if not is_putting_kind(kind_of((), program)):
        raise Refusal("no putter")
    if not is_length(length):
        raise Refusal("no such length")
    numbers = out_of_order(program, length)
    if numbers is None:
        return kept, ("in order",)
    return kept, (f"not in order: {show_value(NUMBERS, numbers)}",)


ORDERS = {
    "program": do_program,
    "drop": do_drop,
    "promise": do_promise,
    "tell": do_tell,
    "table": do_table,
    "alike": do_alike,
    "order": do_order,
}
CHANGING = ("program", "drop")


def is_order(word):
    """Whether the text is an order that has a rest."""
    return word in ORDERS


def changes(word):
    """Whether the order changes what is kept."""
    return word in CHANGING


def done(word, kept, rest):
    """What is kept behind the order, and the answer; of what is wrong InvalidText or a Refusal is raised."""
    action = ORDERS[word]
    return action(kept, Reader(rest))


def _take_kept(kept, reader):
    """The pair of a name and the program that is kept by it."""
    name = reader.take("NAME")
    for pair in kept:
        if pair[0] == name:
            return pair
    raise Refusal(f"no program {name}")


def _take_filling(reader):
    """The filling that is told, its variables in any order."""
    found = {}
    if reader.next_sort() == "NAME":
        _take_kind_of_variable(reader, found)
        while reader.next_sort() == ",":
            reader.take(",")
            _take_kind_of_variable(reader, found)
    return tuple(sorted(found.items()))


def _take_kind_of_variable(reader, found):
    """Puts the kind that is told for a variable into a dict of those that were told ahead."""
    var = reader.take("VARIABLE")
    reader.take("=")
    kind = reader.take("KIND")
    if var in found or not is_data_kind(kind) or not is_closed_kind(kind):
        raise Refusal(f"no filling of {var}")
    found[var] = kind


def _take_argument(reader, index, kind):
    """The argument of the filled kind."""
    _refuse_variables(kind)
    if is_data_kind(kind):
        return reader.take(("value", kind))
    term = reader.take("TERM")
    if not is_thing(kind, term):
        raise Refusal(f"argument {index} is none of {show_kind(kind)}")
    return term


def _take_shape(reader, kind):
    """The shape of arguments for a program of the first kind, which is all that is left to read."""
    asked, _ = asked_and_told(kind)
    shape = []
    for part in asked:
        reader.take(";" if shape else ":")
        shape.append(reader.take(("value", filled(part, ALL_UNIT))))
    reader.take("END")
    return tuple(shape)


def _refuse_variables(kind):
    """Refuses a kind in which a variable is left."""
    left = variables_of(kind)
    if left:
        raise Refusal(f"{left[0]} is not filled")


def _refuse_no_first(kind):
    if not is_first_kind(kind):
        raise Refusal("no first kind")

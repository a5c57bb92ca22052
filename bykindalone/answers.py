"""Programs with tests: what they tell for all answers that tests give on marks (point D4)."""

from bykindalone.errors import InvalidAnswers, NotTested, TooMany, UnlikeKinds
from bykindalone.kinds import TRUTH, is_data_kind
from bykindalone.meaning import NO, YES, called_with, meaning_of
from bykindalone.programs import asked_and_told, kind_of_program
from bykindalone.shapes import check_shape, is_tested_kind, marked_by, places_by_variable, tested_variables
from bykindalone.values import is_value

MOST_ANSWERS = 12


def tested_answer(program, shape, answers):
    """What the program tells of the marked arguments of the shape, the tests answering so."""
    kind = _tested_kind_of(program)
    check_shape(kind, shape)
    _check_answers(_sizes_of_tests(kind, shape), answers)
    return called_with(meaning_of(program), _arguments(kind, marked_by(kind, shape), answers))


def tested_alike(one, two, shape):
    """Whether both programs tell the same of the marked arguments for all answers of the tests."""
    return parting_answers(one, two, shape) is None


def parting_answers(one, two, shape):
    """The first answers of the tests for which both programs tell unlike of the marked arguments; None."""
    kind = check_tested(one, two, shape)
    sizes = _sizes_of_tests(kind, shape)
    many = _answers_together(sizes)
    first, second = meaning_of(one), meaning_of(two)
    at_marks = marked_by(kind, shape)
    for number in range(1 << many):
        answers = _answers_from(sizes, [YES if number >> at & 1 == 0 else NO for at in range(many)])
        arguments = _arguments(kind, at_marks, answers)
        if called_with(first, arguments) != called_with(second, arguments):
            return answers
    return None


def check_tested(one, two, shape):
    """The kind of both programs; refuses what are no tested programs, no shape, unlike kinds, and too many answers."""
    kind = _tested_kind_of(one)
    other = _tested_kind_of(two)
    check_shape(kind, shape)
    if kind != other:
        raise UnlikeKinds()
    many = _answers_together(_sizes_of_tests(kind, shape))
    if many > MOST_ANSWERS:
        raise TooMany(many)
    return kind


def _tested_kind_of(program):
    """The kind of the program, which is a tested one."""
    kind = kind_of_program(program)
    if not is_tested_kind(kind):
        raise NotTested(kind)
    return kind


def _sizes_of_tests(kind, shape):
    """For each test of the kind a tuple of how many marks the one thing, or each of the two, has at the shape."""
    asked, _ = asked_and_told(kind)
    counts = places_by_variable(kind, shape)
    return [tuple([counts[var] for var in tested_variables(part)]) for part in asked if not is_data_kind(part)]


def _answers_together(sizes):
    """How many answers tests of these sizes give together."""
    return sum([size[0] if len(size) == 1 else size[0] * size[1] for size in sizes])


def _check_answers(sizes, answers):
    if not isinstance(answers, tuple) or len(answers) != len(sizes):
        raise InvalidAnswers(None)
    for index, size in enumerate(sizes):
        if not _are_answers(size, answers[index]):
            raise InvalidAnswers(index)


def _are_answers(size, value):
    """Whether it is a tuple of answers of a test of the size, whatever it is."""
    if not isinstance(value, tuple) or len(value) != size[0]:
        return False
    if len(size) == 1:
        return all([is_value(TRUTH, answer) for answer in value])
    return all([_are_answers(size[1:], row) for row in value])


def _answers_from(sizes, turning):
    """The answers of tests of these sizes, taken from the end of a list, which is used up."""
    found = []
    for size in sizes:
        if len(size) == 1:
            found.append(_taken(turning, size[0]))
        else:
            found.append(tuple([_taken(turning, size[1]) for _ in range(size[0])]))
    return tuple(found)


def _taken(turning, many):
    return tuple([turning.pop() for _ in range(many)])


def _arguments(kind, at_marks, answers):
    """The marked arguments with functions that answer so in the place of the tests."""
    asked, _ = asked_and_told(kind)
    waiting = list(answers[::-1])
    found = []
    for part, value in zip(asked, at_marks):
        if is_data_kind(part):
            found.append(value)
        else:
            found.append(_test_of(len(tested_variables(part)), waiting.pop()))
    return found


def _test_of(many, answers):
    """The test of one thing or of two that answers so."""
    if many == 1:
        return lambda mark: answers[mark]
    return lambda first: _test_of(1, answers[first])

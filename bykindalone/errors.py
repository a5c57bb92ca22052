"""The errors of the package: each one stands under KindError alone, and keeps what it is made with."""


class KindError(ValueError):
    """Something that was passed is wrong."""


class InvalidKind(KindError):
    """What was passed is no kind, or none of those that are asked for."""

    def __init__(self, given):
        self.given = given


class InvalidValue(KindError):
    """What was passed is no value of the kind."""

    def __init__(self, given):
        self.given = given


class InvalidLine(KindError):
    """What was passed is no line of text."""

    def __init__(self, given):
        self.given = given


class InvalidThing(KindError):
    """What was passed is no thing of the kind."""

    def __init__(self, given):
        self.given = given


class TooMany(KindError):
    """There are more of them than are looked through."""

    def __init__(self, given):
        self.given = given


class InvalidTable(KindError):
    """What was passed is no table with marks of the arguments."""

    def __init__(self, given):
        self.given = given


class InvalidNumber(KindError):
    """What was passed is no whole number, or none of those that are asked for."""

    def __init__(self, given):
        self.given = given


class InvalidFilling(KindError):
    """A filling is wrong at an index, or as a whole."""

    def __init__(self, index):
        self.index = index


class InvalidContext(KindError):
    """A context is wrong at an index, or as a whole."""

    def __init__(self, index):
        self.index = index


class InvalidArguments(KindError):
    """The arguments of a program are wrong at an index, or as a whole."""

    def __init__(self, index):
        self.index = index


class InvalidRelation(KindError):
    """A relation is wrong at an index, or as a whole."""

    def __init__(self, index):
        self.index = index


class NotRelated(KindError):
    """The two arguments at an index are not related."""

    def __init__(self, index):
        self.index = index


class InvalidShape(KindError):
    """A shape is wrong at an index, or as a whole."""

    def __init__(self, index):
        self.index = index


class InvalidThings(KindError):
    """The things that are to be laid in a shape are wrong at an index, or as a whole."""

    def __init__(self, index):
        self.index = index


class InvalidAnswers(KindError):
    """The answers of tests are wrong at an index, or as a whole."""

    def __init__(self, index):
        self.index = index


class InvalidNumbers(KindError):
    """A tuple of numbers is wrong at an index, or as a whole."""

    def __init__(self, index):
        self.index = index


class InvalidRuns(KindError):
    """The runs are wrong at an index, or as a whole."""

    def __init__(self, index):
        self.index = index


class InvalidTerm(KindError):
    """What stands at a place, a path of indexes, makes it no term, or none as written."""

    def __init__(self, place):
        self.place = place


class WrongTerm(KindError):
    """A term has no kind: it is wrong at a place, the path of a part."""

    def __init__(self, place):
        self.place = place


class InvalidText(KindError):
    """A text is refused at a line and a column; it is no text at all if both are None."""

    def __init__(self, line, column):
        self.line = line
        self.column = column


class NotData(KindError):
    """What is left of a kind is no closed data kind."""

    def __init__(self, kind):
        self.kind = kind


class NotFirst(KindError):
    """The kind of a program is no first one."""

    def __init__(self, kind):
        self.kind = kind


class NotTested(KindError):
    """The kind of a program is no tested one."""

    def __init__(self, kind):
        self.kind = kind


class NotPutting(KindError):
    """The kind of a program is not that of those that put lists in order."""

    def __init__(self, kind):
        self.kind = kind


class Unfilled(KindError):
    """Nothing is told of what stands for a variable."""

    def __init__(self, var):
        self.var = var


class UnlikeKinds(KindError):
    """Two programs are of unlike kinds."""

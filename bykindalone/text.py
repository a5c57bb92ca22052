"""The texts of kinds, terms and values: reading and showing them (points A4, A5 and A6)."""

from bykindalone.errors import InvalidKind, InvalidText, InvalidValue
from bykindalone.kinds import is_closed_kind, is_data_kind, is_kind
from bykindalone.reading import read
from bykindalone.showing import text_of
from bykindalone.terms import check_term
from bykindalone.values import is_value


def read_kind(text):
    """The kind that the text tells."""
    _check_text(text)
    return read("KIND", text)


def read_term(text):
    """The term that the text tells."""
    _check_text(text)
    return read("TERM", text)


def read_value(kind, text):
    """The value of the closed data kind that the text tells."""
    if not is_data_kind(kind) or not is_closed_kind(kind):
        raise InvalidKind(kind)
    _check_text(text)
    return read(("value", kind), text)


def show_kind(kind):
    """The text of the kind."""
    if not is_kind(kind):
        raise InvalidKind(kind)
    return text_of("kind", kind)


def show_term(term):
    """The text of the term."""
    check_term(term)
    return text_of("term", term)


def show_value(kind, value):
    """The text of the value of the closed data kind."""
    if not is_value(kind, value):
        raise InvalidValue(value)
    return text_of("value", (kind, value))


def _check_text(text):
    if not isinstance(text, str):
        raise InvalidText(None, None)

"""The desk: it keeps programs by names, and answers lines of text (point E3)."""

from bykindalone.errors import InvalidLine, InvalidText
from bykindalone.orders import Refusal, changes, done, is_order
from bykindalone.text import show_term


class Desk:
    """A desk that keeps programs by names, none at first."""

    def __init__(self):
        self.kept = ()
        # What was kept ahead of each order that was done and not undone.
        self.earlier = []

    def say(self, line):
        """The answer to the line, a tuple of texts."""
        if not isinstance(line, str):
            raise InvalidLine(line)
        if line == "programs":
            return tuple([f"program {name} = {show_term(program)}" for name, program in self.kept])
        if line == "undo":
            return self._undo()
        word, blank, rest = line.partition(" ")
        if blank == "" or not is_order(word):
            return ("no such line",)
        try:
            return self._do(word, rest)
        except InvalidText as wrong:
            return (f"bad text at {wrong.line} {wrong.column}",)
        except Refusal as refusal:
            return (refusal.answer,)

    def programs(self):
        """The pairs of a name and the program that is kept by it, in order."""
        return self.kept

    def _undo(self):
        if len(self.earlier) == 0:
            return ("nothing to undo",)
        self.kept = self.earlier.pop()
        return ("undone",)

    def _do(self, word, rest):
        kept, answer = done(word, self.kept, rest)
        if changes(word):
            self.earlier.append(self.kept)
            self.kept = kept
        return answer

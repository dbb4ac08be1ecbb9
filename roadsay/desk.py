"""A desk: it takes lines and answers each one with a line."""

from roadsay.answers import answer_to, shown_all
from roadsay.errors import NoName, NoUndo
from roadsay.letters import letters_of
from roadsay.lines import meaning_of, taken_apart
from roadsay.sayings import parts_of


class Desk:
    """A shape, names that stand for sayings of it, and what both were ahead of the lines that changed them.

    No dict of names is changed once it is made, so that the past may hold it.
    """

    def __init__(self):
        self.shape = (2, 2)
        self.names = {}
        self.past = []

    def tell(self, line):
        """Take a line and tell the answer; a refused line changes nothing."""
        word, others = taken_apart(line)
        values = [meaning_of(self.shape, self.names, kind, other) for kind, other in others]
        if word == "fields":
            return self.take_fields(tuple(values))
        if word == "let":
            return self.take_let(values[0], values[2])
        if word == "drop":
            return self.take_drop(values[0])
        if word == "undo":
            return self.take_undo()
        if word == "names":
            return shown_all(sorted(self.names))
        return answer_to(word, self.shape, values)

    def take_fields(self, shape):
        """Go on with another shape and no names."""
        many = len(letters_of(shape))
        self.go_on_with(shape, {})
        return f"fields {many}"

    def take_let(self, name, saying):
        """Let a name stand for a saying from now on."""
        self.go_on_with(self.shape, {**self.names, name: saying})
        notes = parts_of(saying).count(("note",))
        return f"let {name} {notes}"

    def take_drop(self, name):
        """Let a name stand for nothing any more."""
        if name not in self.names:
            raise NoName("this name stands for nothing")
        self.go_on_with(self.shape, {other: self.names[other] for other in self.names if other != name})
        return f"drop {name}"

    def take_undo(self):
        """Go back to what shape and names were ahead of the last line that changed one of them."""
        if not self.past:
            raise NoUndo("no line is left that could be undone")
        self.shape, self.names = self.past.pop()
        return f"undo {len(self.past)}"

    def go_on_with(self, shape, names):
        """Take shape and names from now on, and hold what they were, unless they are still the same."""
        if shape != self.shape or names != self.names:
            self.past.append((self.shape, self.names))
            self.shape = shape
            self.names = names

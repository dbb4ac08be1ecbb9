"""The refusals of the program, one class for each kind."""


class SayError(ValueError):
    """Any refusal."""


class NoShape(SayError):
    """What is handed in as a shape is none."""


class NoSaying(SayError):
    """What is handed in as a saying is none of the shape."""


class NoLetter(SayError):
    """What is handed in as a letter, or as a list of letters, is none of the shape."""


class NoCount(SayError):
    """What is handed in as a count is no such number."""


class NoTest(SayError):
    """What is handed in as a test is none of the shape."""


class NoTable(SayError):
    """What is handed in as a table is none of the shape."""


class NoText(SayError):
    """A text writes no saying of the shape."""


class NoLine(SayError):
    """A line has none of the forms that a desk takes."""


class NoName(SayError):
    """A name stands for nothing."""


class NoUndo(SayError):
    """No line is left that could be undone."""


class TooMany(SayError):
    """There are more trails than are told."""

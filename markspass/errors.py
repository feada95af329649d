"""The errors of the package: one class for each kind of value that is not allowed."""


class MarkError(ValueError):
    """The base class of all errors of the package."""


class BadQuestion(MarkError):
    """A value is no question: part is "question", "steps" or "answers"."""

    def __init__(self, part):
        MarkError.__init__(self, f"no question, its fault being in: {part}")
        self.part = part


class BadReader(MarkError):
    """A value is no reader: part is "reader", "opens" or "closes"."""

    def __init__(self, part):
        MarkError.__init__(self, f"no reader, its fault being in: {part}")
        self.part = part


class BadManner(MarkError):
    """A value is no manner."""


class BadPath(MarkError):
    """A value is no path."""


class BadRow(MarkError):
    """A value is no row, or not one that is wanted: place is a number, or None."""

    def __init__(self, place):
        MarkError.__init__(self, f"no such row, its fault being at place: {place}")
        self.place = place


class BadForest(MarkError):
    """A value is no forest."""


class BadNumber(MarkError):
    """A value is no number of those that are allowed."""


class BadWord(MarkError):
    """A value is no word of those that are allowed."""


class BadTrap(MarkError):
    """A value is no trap."""


class BadText(MarkError):
    """A value is no text of a row: place is a number, or None."""

    def __init__(self, place):
        MarkError.__init__(self, f"no text of a row, its fault being at place: {place}")
        self.place = place


class BadLine(MarkError):
    """A line of a text is not as it must be: line is its number."""

    def __init__(self, line):
        MarkError.__init__(self, f"a wrong line, its number being: {line}")
        self.line = line


class BadStep(MarkError):
    """A tag can't pass, or none can be taken back."""


class TooMany(MarkError):
    """There are more things than are allowed: most is how many are."""

    def __init__(self, most):
        MarkError.__init__(self, f"too many, the most allowed being: {most}")
        self.most = most

"""All errors that the program raises."""


class LassoError(ValueError):
    """The base class of all errors of the program."""


class SyntaxFault(LassoError):
    """A text has a token that cannot stand at a place."""

    def __init__(self, place):
        LassoError.__init__(self, f"the text cannot go on as it does at place {place}")
        self.place = place


class KindFault(LassoError):
    """A text has a number where a truth is wanted, or a truth where a number is wanted."""

    def __init__(self, place):
        LassoError.__init__(self, f"a number and a truth are mixed up at place {place}")
        self.place = place


class UnknownName(LassoError):
    """A tree or an assignment uses a name that stands for no variable."""

    def __init__(self, name):
        LassoError.__init__(self, f"the name {name} is unknown")
        self.name = name


class DuplicateName(LassoError):
    """A name is given to two variables or to two processes, or is assigned twice."""

    def __init__(self, name):
        LassoError.__init__(self, f"the name {name} occurs twice")
        self.name = name


class InvalidRange(LassoError):
    """The values and the initial values of a variable do not fit."""

    def __init__(self, name):
        LassoError.__init__(self, f"the values of {name} do not fit")
        self.name = name


class SharedAssignment(LassoError):
    """Two processes that move jointly by a label assign the same variable."""

    def __init__(self, label, name):
        LassoError.__init__(self, f"two processes with label {label} assign {name}")
        self.label = label
        self.name = name


class TooManyStates(LassoError):
    """More states than the limit can be reached."""

    def __init__(self, limit):
        LassoError.__init__(self, f"more than {limit} states can be reached")
        self.limit = limit


class TooManyPromises(LassoError):
    """A formula has too many temporal rows."""

    def __init__(self, count):
        LassoError.__init__(self, f"the formula has {count} temporal rows")
        self.count = count


class InvalidPaper(LassoError):
    """A line of a written answer does not have its form or cannot stand there."""

    def __init__(self, line):
        LassoError.__init__(self, f"line {line} cannot stand there")
        self.line = line

"""Telling what a call raises."""

from lassoproof.errors import LassoError


def told(function, *arguments):
    """The name of the error of a call and its attributes, or None if it raises none."""
    try:
        function(*arguments)
    except LassoError as error:
        return (type(error).__name__, dict(vars(error)))
    return None


def syntax(place):
    return ("SyntaxFault", {"place": place})


def kind(place):
    return ("KindFault", {"place": place})


def unknown(name):
    return ("UnknownName", {"name": name})


def duplicate(name):
    return ("DuplicateName", {"name": name})


def invalid(name):
    return ("InvalidRange", {"name": name})


def shared(label, name):
    return ("SharedAssignment", {"label": label, "name": name})

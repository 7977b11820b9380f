"""Reading the text of a term, a condition or a formula (points 1.4 to 1.7)."""

from lassoproof.language.parser import Parser


def read_term(text):
    """The tree of a term."""
    return read_whole(text, "number", False)


def read_condition(text):
    """The tree of a condition."""
    return read_whole(text, "truth", False)


def read_formula(text):
    """The tree of a formula."""
    return read_whole(text, "truth", True)


def read_whole(text, kind, temporal):
    """The tree of a text that is one expression of a kind, with temporal words or without."""
    parser = Parser(text, temporal)
    tree = parser.whole(kind)
    parser.finish()
    return tree

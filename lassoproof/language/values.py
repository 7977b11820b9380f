"""The names in trees, and the values of terms and conditions (points 1.2 and 1.10)."""

from lassoproof.errors import UnknownName
from lassoproof.language.operators import TEMPORAL


def names_in(tree):
    """The names of a tree in the order of their first occurrence."""
    names = {}
    note_names(tree, names)
    return list(names)


def note_names(tree, names):
    """Adds the names of a tree to the keys of a dict, which keep their order."""
    if tree[0] == "name":
        names[tree[1]] = True
        return
    for part in parts_of(tree):
        note_names(part, names)


def parts_of(tree):
    """The parts of a tree that are trees themselves."""
    return [part for part in tree[1:] if isinstance(part, tuple)]


def is_condition(formula):
    """Whether no temporal operator is in a formula."""
    if formula[0] in TEMPORAL:
        return False
    return all(is_condition(part) for part in parts_of(formula))


def value(term, values):
    """The integer that a term stands for."""
    require_names(term, values)
    return number_of(term, values)


def truth(condition, values):
    """Whether a condition is true."""
    require_names(condition, values)
    return holds(condition, values)


def require_names(tree, known):
    """Raises UnknownName for the first name of a tree that is not known."""
    for name in names_in(tree):
        if name not in known:
            raise UnknownName(name)


def number_of(term, values):
    """The integer that a term stands for, if all its names are known."""
    word = term[0]
    if word == "number":
        return term[1]
    if word == "name":
        return values[term[1]]
    left = number_of(term[1], values)
    if word == "negative":
        return -left
    if word == "quotient":
        return left // term[2]
    if word == "remainder":
        return left % term[2]
    return combined(word, left, number_of(term[2], values))


def combined(word, left, right):
    """The integer that an operator makes of two integers."""
    if word == "plus":
        return left + right
    if word == "minus":
        return left - right
    if word == "times":
        return left * right
    if word == "least":
        return min(left, right)
    return max(left, right)


def holds(condition, values):
    """Whether a condition is true, if all its names are known."""
    word = condition[0]
    if word == "true" or word == "false":
        return word == "true"
    if word == "equal":
        return number_of(condition[1], values) == number_of(condition[2], values)
    if word == "below":
        return number_of(condition[1], values) < number_of(condition[2], values)
    if word == "upto":
        return number_of(condition[1], values) <= number_of(condition[2], values)
    left = holds(condition[1], values)
    if word == "not":
        return not left
    return connected(word, left, holds(condition[2], values))


def connected(word, left, right, every=True):
    """The truth that an operator makes of two truths.

    A truth is True or False or a set of cases, whose members are the bits of an integer; every
    is the truth of what is true in all cases.
    """
    if word == "and":
        return left & right
    if word == "or":
        return left | right
    if word == "implies":
        return right | (every ^ left)
    return every ^ left ^ right

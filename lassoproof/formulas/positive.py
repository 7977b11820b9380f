"""The positive form of a formula and of its negation (point 2.2)."""

from lassoproof.language.operators import COMPARISONS

DUALS = {
    "and": "or", "or": "and", "next": "next", "eventually": "always", "always": "eventually",
    "until": "release", "release": "until", "unless": "strong", "strong": "unless",
}


def positive(formula):
    """The positive form of a formula."""
    word = formula[0]
    if word in COMPARISONS:
        return formula
    if word == "not":
        return negated(formula[1])
    if word == "implies":
        return ("or", negated(formula[1]), positive(formula[2]))
    return (word, *[positive(part) for part in formula[1:]])


def negated(formula):
    """The positive form of the negation of a formula."""
    word = formula[0]
    if word in COMPARISONS:
        return negated_comparison(formula)
    if word == "true":
        return ("false",)
    if word == "false":
        return ("true",)
    if word == "not":
        return positive(formula[1])
    if word == "implies":
        return ("and", positive(formula[1]), negated(formula[2]))
    if word == "same":
        return ("same", negated(formula[1]), positive(formula[2]))
    return (DUALS[word], *[negated(part) for part in formula[1:]])


def negated_comparison(comparison):
    """The positive form of the negation of a comparison."""
    word, left, right = comparison
    if word == "below":
        return ("upto", right, left)
    if word == "upto":
        return ("below", right, left)
    return ("not", comparison)

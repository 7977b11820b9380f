"""A formula moved on past a state (point 3.5)."""

from lassoproof.formulas.shrink import shrink, shrunk_one, shrunk_two
from lassoproof.language.operators import COMPARISONS
from lassoproof.language.values import holds, require_names


def moved_on(formula, names, state):
    """A formula that is true on a run if the given one is true with the state before the run."""
    require_names(formula, names)
    return moved(shrink(formula), dict(zip(names, state)))


def moved(formula, values):
    """A shrunk formula moved on past the state with these values, shrunk as well."""
    word = formula[0]
    if word in COMPARISONS:
        return ("true",) if holds(formula, values) else ("false",)
    if word == "next":
        return formula[1]
    parts = [moved(part, values) for part in formula[1:]]
    if word == "eventually":
        return shrunk_two("or", parts[0], formula)
    if word == "always":
        return shrunk_two("and", parts[0], formula)
    if word == "until" or word == "unless":
        return shrunk_two("or", parts[1], shrunk_two("and", parts[0], formula))
    if word == "release" or word == "strong":
        return shrunk_two("and", parts[1], shrunk_two("or", parts[0], formula))
    if word == "not":
        return shrunk_one(word, parts[0])
    return shrunk_two(word, parts[0], parts[1]) if parts else formula

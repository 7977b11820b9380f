"""The truth of a formula at each place of a lasso (point 3.3)."""

from lassoproof.formulas.expansions import expanded
from lassoproof.formulas.rows import number_rows
from lassoproof.language.values import holds, require_names

# Operators that are true if nothing ever decides them. The others are false then.
LASTING = ("always", "release", "unless")


def truths_along(formula, names, stem, loop):
    """The truths of a formula at the places of the stem and of the first round of the loop."""
    require_names(formula, names)
    rows = number_rows(formula)
    values = [dict(zip(names, state)) for state in stem + loop]
    truths = []
    for word, left, right in rows.rows:
        if word == "fact":
            truths.append([holds(rows.facts[left], known) for known in values])
        elif word == "true" or word == "false":
            truths.append([word == "true" for _ in values])
        else:
            lefts = truths[left]
            rights = truths[right] if right >= 0 else lefts
            truths.append(operator_along(word, lefts, rights, len(stem)))
    return truths[-1]


def true_on(formula, names, stem, loop):
    """Whether a formula is true on the run of a lasso."""
    return truths_along(formula, names, stem, loop)[0]


def operator_along(word, lefts, rights, turn):
    """The truths of an operator from those of its parts; the loop begins at the place turn."""
    if word == "next":
        return lefts[1:] + [lefts[turn]]
    found = [False] * len(lefts)
    ahead = word in LASTING
    for place in backwards(turn, len(lefts)):
        ahead = expanded(word, lefts[place], rights[place], ahead)
        found[place] = ahead
    return found


def backwards(turn, end):
    """All places from the last to the first, and the loop once more before them.

    The first round finds the truth at the place where the loop begins, which the place at its
    end has to know.
    """
    return list(range(end - 1, turn - 1, -1)) + list(range(end - 1, -1, -1))

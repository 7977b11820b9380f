"""The size of a formula, and shrinking it (points 2.1 and 2.4)."""

from lassoproof.language.operators import COMPARISONS

# What is left of an operator if one part is a constant: "part" is the other part, "true" and
# "false" are constants, and any other word is an operator over the other part.
LEFT_TRUE = {
    "and": "part", "or": "true", "implies": "part", "same": "part",
    "until": "eventually", "release": "part", "unless": "true", "strong": "part",
}
LEFT_FALSE = {
    "and": "false", "or": "part", "implies": "true", "same": "not",
    "until": "part", "release": "always", "unless": "part", "strong": "false",
}
RIGHT_TRUE = {
    "and": "part", "or": "true", "implies": "true", "same": "part",
    "until": "true", "release": "true", "unless": "true", "strong": "eventually",
}
RIGHT_FALSE = {
    "and": "false", "or": "part", "implies": "not", "same": "not",
    "until": "false", "release": "false", "unless": "always", "strong": "false",
}


def size(formula):
    """The number of nodes of a formula, where a comparison counts as one."""
    if formula[0] in COMPARISONS:
        return 1
    return 1 + sum([size(part) for part in formula[1:]])


def shrink(formula):
    """A formula that is true on the same runs, with true and false only as the whole of it."""
    if formula[0] in COMPARISONS:
        return formula
    parts = [shrink(part) for part in formula[1:]]
    if len(parts) == 1:
        return shrunk_one(formula[0], parts[0])
    if len(parts) == 2:
        return shrunk_two(formula[0], parts[0], parts[1])
    return formula


def shrunk_one(word, part):
    """An operator over one shrunk part."""
    if part[0] not in ("true", "false"):
        return (word, part)
    if word != "not":
        return part
    return ("false",) if part[0] == "true" else ("true",)


def shrunk_two(word, left, right):
    """An operator over two shrunk parts."""
    if left[0] == "true":
        return shrunk_rest(LEFT_TRUE[word], right)
    if left[0] == "false":
        return shrunk_rest(LEFT_FALSE[word], right)
    if right[0] == "true":
        return shrunk_rest(RIGHT_TRUE[word], left)
    if right[0] == "false":
        return shrunk_rest(RIGHT_FALSE[word], left)
    return (word, left, right)


def shrunk_rest(rest, part):
    """What is left of an operator, with its shrunk part that is no known constant."""
    if rest == "part":
        return part
    if rest in ("true", "false"):
        return (rest,)
    return shrunk_one(rest, part)

"""Random trees and simple measures of trees, for tests."""

COMPARISONS = ("equal", "below", "upto")
TEMPORAL = ("next", "eventually", "always", "until", "release", "unless", "strong")


def random_term(random, depth, names):
    if depth <= 1 or random.random() < 0.2:
        if names and random.random() < 0.6:
            return ("name", random.choice(names))
        return ("number", random.choice([0, 1, 2, 3, 10, 10 ** 18 - 1]))
    word = random.choice(
        ["plus", "minus", "times", "negative", "quotient", "remainder", "least", "most"]
    )
    part = random_term(random, depth - 1, names)
    if word == "negative":
        return (word, part)
    if word in ("quotient", "remainder"):
        return (word, part, random.choice([1, 2, 3, 7]))
    return (word, part, random_term(random, depth - 1, names))


def random_comparison(random, depth, names):
    return (
        random.choice(COMPARISONS),
        random_term(random, depth - 1, names),
        random_term(random, depth - 1, names),
    )


def random_formula(random, depth, atoms, constants=0.2, temporal=True):
    """A random formula or condition; atoms is a function that makes its comparisons."""
    if depth <= 1 or random.random() < 0.1:
        if random.random() < constants:
            return (random.choice(["true", "false"]),)
        return atoms()
    words = ["not", "and", "or", "implies", "same"]
    if temporal:
        words += TEMPORAL
    word = random.choice(words)
    part = random_formula(random, depth - 1, atoms, constants, temporal)
    if word in ("not", "next", "eventually", "always"):
        return (word, part)
    return (word, part, random_formula(random, depth - 1, atoms, constants, temporal))


def parts(tree):
    """The parts of a tree that are trees."""
    return [part for part in tree[1:] if isinstance(part, tuple)]


def depth(tree):
    """The depth of a tree, nodes of terms included."""
    return 1 + max([depth(part) for part in parts(tree)], default=0)


def subtrees(tree):
    """All subtrees of a tree, the first part of a node before its second part."""
    return [tree] + [below for part in parts(tree) for below in subtrees(part)]


def formula_size(formula):
    """The nodes of a formula, where a comparison counts as one."""
    if formula[0] in COMPARISONS:
        return 1
    return 1 + sum(formula_size(part) for part in formula[1:])


def comparisons(formula):
    return {tree for tree in subtrees(formula) if tree[0] in COMPARISONS}


def temporal_parts(formula):
    return {tree for tree in subtrees(formula) if tree[0] in TEMPORAL}

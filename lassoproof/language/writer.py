"""Writing terms, conditions and formulas (point 1.8)."""

from lassoproof.language.operators import ATOM, BEFORE, BETWEEN, DIVISIONS

TEXTS_BETWEEN = {
    "same": "<->", "implies": "->", "or": "or", "and": "and",
    "until": "U", "release": "R", "unless": "W", "strong": "M",
    "equal": "=", "below": "<", "upto": "<=",
    "plus": "+", "minus": "-", "times": "*", "quotient": "div", "remainder": "mod",
}
TEXTS_BEFORE = {"not": "not ", "next": "X ", "eventually": "F ", "always": "G ", "negative": "-"}
CALLS = {"least": "min", "most": "max"}


def write_term(term):
    """The text of a term."""
    return write_tree(term)


def write_formula(formula):
    """The text of a formula or a condition."""
    return write_tree(formula)


def write_tree(tree):
    """The text of a tree without brackets around it."""
    word = tree[0]
    if word == "number":
        return str(tree[1])
    if word == "name":
        return tree[1]
    if word in CALLS:
        return f"{CALLS[word]}({write_tree(tree[1])}, {write_tree(tree[2])})"
    if word in BEFORE:
        return TEXTS_BEFORE[word] + write_operand(tree[1], BEFORE[word])
    if word in BETWEEN:
        return write_between(tree)
    return word


def write_between(tree):
    """The text of an operator between two operands."""
    word = tree[0]
    _, left, right = BETWEEN[word]
    first = write_operand(tree[1], left)
    second = str(tree[2]) if word in DIVISIONS else write_operand(tree[2], right)
    return f"{first} {TEXTS_BETWEEN[word]} {second}"


def write_operand(tree, required):
    """The text of an operand, in brackets if its level is less than its place requires."""
    text = write_tree(tree)
    if level_of(tree[0]) < required:
        return f"({text})"
    return text


def level_of(word):
    """The level of a tree with this word."""
    if word in BETWEEN:
        return BETWEEN[word][0]
    return BEFORE.get(word, ATOM)

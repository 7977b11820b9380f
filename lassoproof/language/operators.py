"""The levels of the operators (points 1.4 and 1.8), shared by reading and writing."""

LOOSEST = 1
COMPARISON = 7
ARITHMETIC = 8
ATOM = 11

# Operators between two operands: their level, and the levels that the left and the right
# operand require. The right operand of quotient and remainder is a bare number.
BETWEEN = {
    "same": (1, 1, 2),
    "implies": (2, 3, 2),
    "or": (3, 3, 4),
    "and": (4, 4, 5),
    "until": (5, 6, 5),
    "release": (5, 6, 5),
    "unless": (5, 6, 5),
    "strong": (5, 6, 5),
    "equal": (7, 8, 8),
    "below": (7, 8, 8),
    "upto": (7, 8, 8),
    "plus": (8, 8, 9),
    "minus": (8, 8, 9),
    "times": (9, 9, 10),
    "quotient": (9, 9, 11),
    "remainder": (9, 9, 11),
}

# Operators before one operand: their level, which is also what the operand requires.
BEFORE = {"not": 6, "next": 6, "eventually": 6, "always": 6, "negative": 10}

COMPARISONS = ("equal", "below", "upto")
DIVISIONS = ("quotient", "remainder")
TEMPORAL = ("next", "eventually", "always", "until", "release", "unless", "strong")

"""Reading expressions from tokens (points 1.4 to 1.7)."""

from lassoproof.errors import KindFault, SyntaxFault
from lassoproof.language.operators import (
    ARITHMETIC,
    ATOM,
    BEFORE,
    BETWEEN,
    COMPARISON,
    DIVISIONS,
    LOOSEST,
)
from lassoproof.language.tokens import scan

SIGNS_BETWEEN = {
    "<->": "same", "->": "implies", "or": "or", "and": "and",
    "U": "until", "R": "release", "W": "unless", "M": "strong",
    "=": "equal", "<>": "equal", "<": "below", ">": "below", "<=": "upto", ">=": "upto",
    "+": "plus", "-": "minus", "*": "times", "div": "quotient", "mod": "remainder",
}
SIGNS_BEFORE = {"not": "not", "X": "next", "F": "eventually", "G": "always", "-": "negative"}
CALLS = {"min": "least", "max": "most"}
TEMPORAL_WORDS = ("X", "F", "G", "U", "R", "W", "M")


class Phrase:
    """An expression that was read.

    The place is that of its outermost operator or, without one, that of its only token.
    """

    def __init__(self, tree, kind, place, level):
        self.tree = tree
        self.kind = kind
        self.place = place
        self.level = level


class Parser:
    """A position in the tokens of a text, and the places of the faults of kind so far.

    Faults of kind are only collected, because any later syntax fault comes before them.
    """

    def __init__(self, text, temporal):
        tokens = scan(text)
        if not temporal:
            tokens = [without_time(token) for token in tokens]
        self.tokens = tokens
        self.at = 0
        self.faults = []

    def current_kind(self):
        """The kind of the token that comes now."""
        return self.tokens[self.at][0]

    def current_value(self):
        """The value of the token that comes now; it tells words, signs and names apart."""
        return self.tokens[self.at][1]

    def current_place(self):
        """The place of the token that comes now."""
        return self.tokens[self.at][2]

    def take(self):
        """The token that comes now; the one behind it comes next."""
        token = self.tokens[self.at]
        self.at += 1
        return token

    def expect(self, value):
        """Takes a word or a sign that must stand here."""
        if self.current_value() != value:
            raise SyntaxFault(self.current_place())
        self.at += 1

    def expect_kind(self, kind):
        """Takes a token of a kind that must stand here, and returns its value."""
        if self.current_kind() != kind:
            raise SyntaxFault(self.current_place())
        return self.take()[1]

    def finish(self):
        """Raises what is wrong with the text when all of it should have been read."""
        if self.current_kind() != "end":
            raise SyntaxFault(self.current_place())
        if self.faults:
            raise KindFault(min(self.faults))

    def whole(self, kind):
        """The tree of a whole expression that should be a "number" or a "truth"."""
        phrase = self.expression(LOOSEST)
        if phrase.kind != kind:
            self.faults.append(phrase.place)
        return phrase.tree

    def expression(self, least):
        """The longest phrase from here on that has at least a level."""
        phrase = self.operand(least)
        while self.goes_on(phrase, least):
            phrase = self.joined(phrase)
        return phrase

    def goes_on(self, phrase, least):
        """Whether an operator comes that takes the phrase and keeps at least a level."""
        sign = self.current_value()
        if sign not in SIGNS_BETWEEN:
            return False
        level, required, _ = BETWEEN[SIGNS_BETWEEN[sign]]
        return level >= least and phrase.level >= required

    def joined(self, left):
        """The phrase of the operator that comes, with its left operand given."""
        _, sign, place = self.take()
        word = SIGNS_BETWEEN[sign]
        level, _, required = BETWEEN[word]
        if word in DIVISIONS:
            self.note_kinds(place, level, [left])
            return Phrase((word, left.tree, self.divisor()), kind_of(level), place, level)
        right = self.expression(required)
        self.note_kinds(place, level, [left, right])
        return Phrase(tree_between(sign, left.tree, right.tree), kind_of(level), place, level)

    def divisor(self):
        """The number behind `div` or `mod`; 0 cannot stand there."""
        place = self.current_place()
        number = self.expect_kind("number")
        if number == 0:
            raise SyntaxFault(place)
        return number

    def operand(self, least):
        """The phrase from here on up to the first operator between operands."""
        kind, value, place = self.tokens[self.at]
        if kind == "number" or kind == "name":
            self.at += 1
            return Phrase((kind, value), "number", place, ATOM)
        if value == "true" or value == "false":
            self.at += 1
            return Phrase((value,), "truth", place, ATOM)
        if value == "(":
            return self.bracketed()
        if value in CALLS:
            return self.call()
        if value in SIGNS_BEFORE and level_before(value) >= least:
            return self.preceded(level_before(value))
        raise SyntaxFault(place)

    def bracketed(self):
        """The phrase in brackets; its place stays, because brackets do not count."""
        self.expect("(")
        inner = self.expression(LOOSEST)
        self.expect(")")
        return Phrase(inner.tree, inner.kind, inner.place, ATOM)

    def call(self):
        """The phrase of `min` or `max`."""
        _, name, place = self.take()
        self.expect("(")
        first = self.expression(LOOSEST)
        self.expect(",")
        second = self.expression(LOOSEST)
        self.expect(")")
        self.note_kinds(place, ATOM, [first, second])
        return Phrase((CALLS[name], first.tree, second.tree), kind_of(ATOM), place, ATOM)

    def preceded(self, level):
        """The phrase of all operators of one level that come here before one operand.

        They are taken in a loop, because many of them may stand in a row.
        """
        signs = []
        while level_before(self.current_value()) == level:
            signs.append(self.take())
        phrase = self.expression(level + 1)
        for _, sign, place in reversed(signs):
            self.note_kinds(place, level, [phrase])
            tree = (SIGNS_BEFORE[sign], phrase.tree)
            phrase = Phrase(tree, kind_of(level), place, level)
        return phrase

    def note_kinds(self, place, level, operands):
        """Notes a fault at an operator that has an operand of the wrong kind."""
        wanted = "number" if level >= COMPARISON else "truth"
        if any(operand.kind != wanted for operand in operands):
            self.faults.append(place)


def without_time(token):
    """The token, or a fault in its place if it is a temporal word."""
    _, value, place = token
    if value in TEMPORAL_WORDS:
        return ("fault", "", place)
    return token


def level_before(sign):
    """The level of an operator that stands before its operand; 0 for any other token."""
    if sign in SIGNS_BEFORE:
        return BEFORE[SIGNS_BEFORE[sign]]
    return 0


def kind_of(level):
    """The kind of what an operator of a level yields."""
    return "number" if level >= ARITHMETIC else "truth"


def tree_between(sign, left, right):
    """The tree of an operator between two operands."""
    if sign == "<>":
        return ("not", ("equal", left, right))
    if sign == ">" or sign == ">=":
        return (SIGNS_BETWEEN[sign], right, left)
    return (SIGNS_BETWEEN[sign], left, right)

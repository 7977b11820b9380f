"""Splitting a text into tokens (point 1.3)."""

from lassoproof.errors import SyntaxFault

DIGITS = "0123456789"
SMALL_LETTERS = "abcdefghijklmnopqrstuvwxyz"
NAME_STARTS = "_abcdefghijklmnopqrstuvwxyzABCDEFGHIJKLMNOPQRSTUVWXYZ"
NAME_PARTS = "_0123456789abcdefghijklmnopqrstuvwxyzABCDEFGHIJKLMNOPQRSTUVWXYZ"
MOST_DIGITS = 18

WORDS = (
    "true", "false", "not", "and", "or", "div", "mod", "min", "max",
    "X", "F", "G", "U", "R", "W", "M",
    "var", "in", "start", "process", "when", "do", "skip", "justice", "compassion",
)
SIGNS = (
    "<->",
    ":=", "..", "<>", "<=", ">=", "->",
    "(", ")", ",", ":", "+", "-", "*", "=", "<", ">",
)


def tokenize(text):
    """The tokens of a text, each a tuple (kind, value, place)."""
    tokens = scan(text)
    kind, _, place = tokens[-1]
    if kind == "fault":
        raise SyntaxFault(place)
    return tokens


def scan(text):
    """The tokens of a text; where no token stands, a last one of the kind "fault".

    A reader needs the tokens before a fault, because one of these may be wrong already.
    """
    tokens = []
    at = 0
    while at < len(text):
        if text[at] == " ":
            at += 1
            continue
        kind, value, end = token_at(text, at)
        tokens.append((kind, value, at))
        if kind == "fault":
            return tokens
        at = end
    tokens.append(("end", "", len(text)))
    return tokens


def token_at(text, at):
    """The kind and the value of the token at a place, and the place behind it."""
    if text[at] in DIGITS:
        return number_at(text, at)
    if text[at] in NAME_STARTS:
        return candidate_at(text, at)
    if text[at] == "\n":
        return ("line", "", at + 1)
    return sign_at(text, at)


def number_at(text, at):
    """The number at a place, or a fault if it is too long or touches a letter."""
    end = run_end(text, at, DIGITS)
    if end - at > MOST_DIGITS or run_end(text, end, NAME_PARTS) > end:
        return ("fault", "", at)
    return ("number", int(text[at:end]), end)


def candidate_at(text, at):
    """The name or the word at a place, or a fault if what stands there is neither."""
    end = run_end(text, at, NAME_PARTS)
    candidate = text[at:end]
    if candidate in WORDS:
        return ("word", candidate, end)
    if candidate[0] in SMALL_LETTERS:
        return ("name", candidate, end)
    return ("fault", "", at)


def sign_at(text, at):
    """The longest sign at a place, or a fault if no sign stands there."""
    for length in (3, 2, 1):
        sign = text[at:at + length]
        if sign in SIGNS:
            return ("sign", sign, at + len(sign))
    return ("fault", "", at)


def run_end(text, at, characters):
    """The place behind the longest run of these characters from a place on."""
    end = at
    while end < len(text) and text[end] in characters:
        end += 1
    return end

"""The words of written answers (points 8.1 to 8.3)."""

from lassoproof.language.tokens import DIGITS, MOST_DIGITS


def is_natural(word):
    """Whether a word is a number from 0 on, without needless zeros."""
    if not 1 <= len(word) <= MOST_DIGITS or not all(letter in DIGITS for letter in word):
        return False
    return word == "0" or word[0] != "0"


def is_integer(word):
    """Whether a word is a number, perhaps with a minus before it."""
    if word.startswith("-"):
        return is_natural(word[1:]) and word != "-0"
    return is_natural(word)


def integers_of(words):
    """The tuple of the integers that words write, or None if one of them is no integer."""
    if not all(is_integer(word) for word in words):
        return None
    return tuple([int(word) for word in words])

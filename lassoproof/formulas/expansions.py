"""The truth of an operator at a place from that of its parts and from the next place.

These are the expansions of point 3.4. Lassos and promises (point 7.2) both rest on them.
"""

from lassoproof.language.values import connected


def expanded(word, left, right, promise, every=True):
    """The truth of an operator at a place, from the truths of its parts at that place.

    The promise is about the next place: the truth of the part of next there, and for the other
    temporal operators the truth of the operator itself there. Truths may be sets of cases, as
    for connected operators.
    """
    if word == "next":
        return promise
    if word == "eventually":
        return left | promise
    if word == "always":
        return left & promise
    if word == "until" or word == "unless":
        return right | (left & promise)
    if word == "release" or word == "strong":
        return right & (left | promise)
    if word == "not":
        return every ^ left
    return connected(word, left, right, every)

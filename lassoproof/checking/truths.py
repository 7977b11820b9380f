"""The truths of all rows at a place of a run, its promises, and settled rows (7.1 to 7.3)."""

from lassoproof.formulas.expansions import expanded


def complete(rows, facts, promises):
    """The truths of all rows at a place, from its facts and its promises."""
    promise_of = dict(zip(rows.temporal, promises))
    truths = []
    for number, (word, left, right) in enumerate(rows.rows):
        if word == "fact":
            truths.append(facts[left])
        elif word == "true" or word == "false":
            truths.append(word == "true")
        else:
            other = truths[right] if right >= 0 else None
            truths.append(expanded(word, truths[left], other, promise_of.get(number)))
    return truths


def promised(rows, truths):
    """What the place before promises, from the truths of all rows at a place."""
    return tuple([truths[subject(rows.rows[number], number)] for number in rows.temporal])


def subject(row, number):
    """The number of the row whose truth at the next place a temporal row promises."""
    return row[1] if row[0] == "next" else number


def settled(rows, number, truths):
    """Whether a temporal row other than next is settled at a place."""
    word, left, right = rows.rows[number]
    held = truths[number]
    if word == "eventually":
        return truths[left] or not held
    if word == "until":
        return truths[right] or not held
    if word == "strong":
        return (truths[left] and truths[right]) or not held
    if word == "always":
        return held or not truths[left]
    if word == "release":
        return held or not truths[right]
    return held or not (truths[left] or truths[right])

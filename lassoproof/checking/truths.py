"""The truths of all rows at a place of a run, its promises, and settled rows (7.1 to 7.3).

Truths may be sets of cases here, one case for each choice of promises: an integer with a bit for
each case in which something is true. Then every is the set of all cases.
"""

from lassoproof.formulas.expansions import expanded


def complete(rows, facts, promises):
    """The truths of all rows at a place, from its facts and its promises."""
    return spread(rows, facts, promises, True)


def spread(rows, facts, promises, every):
    """The truths of all rows, from facts and promises that are truths or sets of cases."""
    promise_of = dict(zip(rows.temporal, promises))
    truths = []
    for number, (word, left, right) in enumerate(rows.rows):
        if word == "fact":
            truths.append(facts[left])
        elif word == "true" or word == "false":
            truths.append(every if word == "true" else every ^ every)
        else:
            other = truths[right] if right >= 0 else None
            promise = promise_of.get(number)
            truths.append(expanded(word, truths[left], other, promise, every))
    return truths


def promised(rows, truths):
    """What the place before promises, from the truths of all rows at a place."""
    return tuple([truths[subject(rows.rows[number], number)] for number in rows.temporal])


def subject(row, number):
    """The number of the row whose truth at the next place a temporal row promises."""
    return row[1] if row[0] == "next" else number


def settled(rows, number, truths):
    """Whether a temporal row other than next is settled at a place."""
    return settled_cases(rows, number, truths, True)


def settled_cases(rows, number, truths, every):
    """The truth of being settled, from truths or sets of cases."""
    word, left, right = rows.rows[number]
    held = truths[number]
    if word == "eventually":
        return truths[left] | (every ^ held)
    if word == "until":
        return truths[right] | (every ^ held)
    if word == "strong":
        return (truths[left] & truths[right]) | (every ^ held)
    if word == "always":
        return held | (every ^ truths[left])
    if word == "release":
        return held | (every ^ truths[right])
    return held | (every ^ (truths[left] | truths[right]))


def settling_rows(rows):
    """The numbers of the temporal rows other than next, in ascending order."""
    return [number for number in rows.temporal if rows.rows[number][0] != "next"]

"""The states, the suffixes and the shortest form of a lasso (points 3.1 and 3.2)."""


def state_at(stem, loop, place):
    """The state at a place of the run."""
    if place < len(stem):
        return stem[place]
    return loop[(place - len(stem)) % len(loop)]


def suffix(stem, loop, place):
    """The lasso of the run from a place on."""
    if place <= len(stem):
        return (stem[place:], list(loop))
    return ([], rotated(loop, place - len(stem)))


def unrolled(stem, loop, count):
    """The lasso of the same run with a stem that is longer by count states."""
    end = len(stem) + count
    more = [state_at(stem, loop, place) for place in range(len(stem), end)]
    return (stem + more, rotated(loop, count))


def shortest(stem, loop):
    """The lasso of the same run with the least loop and the least stem."""
    least = loop[:period(loop)]
    count = repeated(stem, least)
    return (stem[:len(stem) - count], rotated(least, -count))


def same_run(one, other):
    """Whether two lassos have the same state at every place."""
    return shortest(one[0], one[1]) == shortest(other[0], other[1])


def rotated(loop, count):
    """A loop that begins count items later, or earlier if count is below 0."""
    first = count % len(loop)
    return loop[first:] + loop[:first]


def period(loop):
    """The length of the least loop that a loop repeats."""
    for length in range(1, len(loop)):
        if len(loop) % length == 0 and loop[length:] == loop[:-length]:
            return length
    return len(loop)


def repeated(stem, loop):
    """How many items at the end of the stem are those that the loop has there when it goes on."""
    count = 0
    while count < len(stem) and stem[-1 - count] == loop[-1 - count % len(loop)]:
        count += 1
    return count

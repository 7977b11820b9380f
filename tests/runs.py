"""The meaning of formulas on lassos, by the words of point 3.3."""

from itertools import product

from lassoproof.language.values import truth


def walk(stem, loop, place):
    """The places of a run from one on, until all have come that ever come."""
    length = len(stem) + len(loop)
    places = []
    for _ in range(length + len(loop)):
        places.append(place)
        place = place + 1 if place + 1 < length else len(stem)
    return places


def meaning(formula, names, stem, loop, place):
    """Whether a formula is true at a place of a lasso."""
    def at(tree, k):
        return meaning(tree, names, stem, loop, k)

    word, parts = formula[0], formula[1:]
    if word in ("true", "false", "equal", "below", "upto"):
        return truth(formula, dict(zip(names, (stem + loop)[place])))
    if word == "not":
        return not at(parts[0], place)
    if word == "and":
        return at(parts[0], place) and at(parts[1], place)
    if word == "or":
        return at(parts[0], place) or at(parts[1], place)
    if word == "implies":
        return at(parts[1], place) or not at(parts[0], place)
    if word == "same":
        return at(parts[0], place) == at(parts[1], place)
    places = walk(stem, loop, place)
    if word == "next":
        return at(parts[0], places[1])
    if word == "eventually":
        return any(at(parts[0], k) for k in places)
    if word == "always":
        return all(at(parts[0], k) for k in places)
    if word == "until":
        for k in places:
            if at(parts[1], k):
                return True
            if not at(parts[0], k):
                return False
        return False
    if word == "release":
        return not at(("until", ("not", parts[0]), ("not", parts[1])), place)
    if word == "unless":
        return at(("until",) + parts, place) or at(("always", parts[0]), place)
    if word == "strong":
        return at(("until", parts[1], ("and",) + parts), place)
    raise AssertionError(word)


def all_lassos(states, stems, loops):
    """All lassos of these states with stems and loops of these lengths."""
    return [
        (list(stem), list(loop))
        for i in stems for j in loops
        for stem in product(states, repeat=i) for loop in product(states, repeat=j)
    ]


def meaning_on(formula, names, lassos):
    """The truths of a formula at place 0 of each of the lassos."""
    return [meaning(formula, names, stem, loop, 0) for stem, loop in lassos]

"""Telling rows, which are true at one node and false at another (point 9.3)."""

from lassoproof.classes.partition import rounds_apart
from lassoproof.formulas.rows import Numbering


def telling(after, labels, one, other):
    """Telling rows whose last row is true at one node and false at another, or None."""
    apart = rounds_apart(after, labels)
    if apart[one][other] is None:
        return None
    plans = plans_for(after, apart, (one, other))
    numbering = Numbering()
    number_of = {}
    for pair in sorted(plans, key=lambda nodes: apart[nodes[0]][nodes[1]]):
        number_of[pair] = add_plan(numbering, pair, plans[pair], number_of)
    return numbering.rows[:number_of[(one, other)] + 1]


def plans_for(after, apart, pair):
    """For a pair of nodes, and for all pairs that it needs, how to tell the first node.

    The plan of a pair with different labels is None. Any other plan says whether its last row is
    turned by a not, and which pairs are needed: a successor of one node with each successor of the
    other node. These pairs are told apart in fewer rounds.
    """
    plans = {}
    waiting = [pair]
    while waiting:
        one, other = waiting.pop()
        if (one, other) not in plans:
            plans[(one, other)] = plan_for(after, apart, one, other)
            if plans[(one, other)] is not None:
                _, ahead, against = plans[(one, other)]
                waiting.extend([(ahead, rest) for rest in against])
    return plans


def plan_for(after, apart, one, other):
    """None for different labels; otherwise whether to turn the row, a successor, and the
    successors from which it is told."""
    rounds = apart[one][other]
    if rounds == 0:
        return None
    ahead = witness(after, apart, one, other)
    if ahead is not None:
        return (False, ahead, after[other])
    return (True, witness(after, apart, other, one), after[one])


def witness(after, apart, one, other):
    """A successor of one node that is told from each successor of the other in fewer rounds."""
    for ahead in after[one]:
        if all(is_fewer(apart[ahead][rest], apart[one][other]) for rest in after[other]):
            return ahead
    return None


def is_fewer(rounds, limit):
    """Whether a number of rounds, or None for no number, is below a limit."""
    return rounds is not None and rounds < limit


def add_plan(numbering, pair, plan, number_of):
    """Adds the rows of a plan, if those of the pairs that it needs are there."""
    if plan is None:
        return numbering.number_of_row(("label", pair[0], -1))
    is_turned, ahead, against = plan
    numbers = sorted({number_of[(ahead, rest)] for rest in against})
    if not numbers:
        numbers = [numbering.number_of_row(("label", ahead, -1))]
    number = numbers[0]
    for further in numbers[1:]:
        number = numbering.number_of_row(("and", number, further))
    number = numbering.number_of_row(("can", number, -1))
    if is_turned:
        number = numbering.number_of_row(("not", number, -1))
    return number


def truths_of(after, labels, rows):
    """For each telling row the list of its truths at all nodes."""
    truths = []
    for word, left, right in rows:
        if word == "label":
            truths.append([label == labels[left] for label in labels])
        elif word == "not":
            truths.append([not held for held in truths[left]])
        elif word == "and":
            truths.append([one and other for one, other in zip(truths[left], truths[right])])
        else:
            truths.append([any_of(following, truths[left]) for following in after])
    return truths


def any_of(nodes, truths):
    """Whether something is true at one of the nodes."""
    return any(truths[node] for node in nodes)

"""Lifting answers from classes to nodes, and the check by classes (points 9.5 and 9.6)."""

from lassoproof.checking.questions import question_of, with_states
from lassoproof.checking.search import check_graph
from lassoproof.checking.verdicts import Certificate, Verdict
from lassoproof.classes.quotient import first_nodes, quotient
from lassoproof.fairness.marks import Marks


def lift_lasso(after, starts, class_of, stem, loop):
    """A lasso of nodes, from a start on, with the same run of classes.

    The way through the loop is walked until it comes to the loop's first class at a node where it
    was there before.
    """
    here = member_of(starts, class_of, (stem + loop)[0])
    walk = []
    for number in (stem + loop[:1])[1:]:
        walk.append(here)
        here = member_of(after[here], class_of, number)
    turns = {}
    while here not in turns:
        turns[here] = len(walk)
        for number in loop[1:] + loop[:1]:
            walk.append(here)
            here = member_of(after[here], class_of, number)
    return (walk[:turns[here]], walk[turns[here]:])


def member_of(nodes, class_of, number):
    """The first of some nodes that is in a class."""
    for node in nodes:
        if class_of[node] == number:
            return node
    return None


def check_by_classes(system, formula, *, limit=2000):
    """The Verdict of a check that was done on the quotient of the space."""
    question = question_of(system, formula, limit)
    space = question.space
    small = quotient(space.after, space.starts, labels_of(question))
    class_of = small.class_of
    verdict = check_graph(
        small.after, small.starts, [question.facts[node] for node in first_nodes(class_of)],
        question.rows, justice=[classes_of(class_of, nodes) for nodes in question.justice],
        compassion=[
            (classes_of(class_of, first), classes_of(class_of, second))
            for first, second in question.compassion
        ],
    )
    return with_states(lifted(verdict, space, class_of), space.states)


def labels_of(question):
    """For each state the truths of the facts and of the conditions of fairness as numbers."""
    marks = Marks(len(question.space.states), question.justice, question.compassion)
    labels = []
    for node, facts in enumerate(question.facts):
        bits = tuple([1 if fact else 0 for fact in facts])
        in_fairness = (marks.in_justice[node], marks.in_first[node], marks.in_second[node])
        labels.append((bits, in_fairness))
    return labels


def classes_of(class_of, nodes):
    """The classes of some nodes, in ascending order."""
    return sorted({class_of[node] for node in nodes})


def lifted(verdict, space, class_of):
    """The Verdict about classes as one about the nodes of a space."""
    if verdict.holds:
        return Verdict(True, lifted_certificate(verdict.certificate, class_of), None, None)
    stem, loop = lift_lasso(space.after, space.starts, class_of, verdict.stem, verdict.loop)
    return Verdict(False, None, stem, loop)


def lifted_certificate(certificate, class_of):
    """The Certificate with a place for each node of the class of a place.

    What leads from a node to a node leads from its class to the other's class, so that the blocks
    and their reasons stay right.
    """
    members = [[] for _ in first_nodes(class_of)]
    for node, number in enumerate(class_of):
        members[number].append(node)
    places = []
    spans = []
    for number, promises in certificate.places:
        spans.append(list(range(len(places), len(places) + len(members[number]))))
        places.extend([(node, promises) for node in members[number]])
    return Certificate(places, lifted_blocks(certificate.blocks, spans))


def lifted_blocks(blocks, spans):
    """The blocks with the indexes of all places that stand for one of theirs."""
    return [
        (reason, number, [index for node in nodes for index in spans[node]],
         lifted_blocks(inner, spans))
        for reason, number, nodes, inner in blocks
    ]

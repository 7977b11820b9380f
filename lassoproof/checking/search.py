"""The check of a system or a graph (points 7.7 and 7.8)."""

from lassoproof.checking.outlooks import Outlooks, require_few_promises
from lassoproof.checking.product import product_compassion, product_justice, reached_places
from lassoproof.checking.questions import question_of, with_states
from lassoproof.checking.truths import settling_rows
from lassoproof.checking.verdicts import Certificate, Verdict
from lassoproof.fairness.search import find_fair


def check(system, formula, *, limit=2000):
    """The Verdict for a formula on the fair runs of a system."""
    question = question_of(system, formula, limit)
    space = question.space
    verdict = check_graph(
        space.after, space.starts, question.facts, question.rows,
        justice=question.justice, compassion=question.compassion,
    )
    return with_states(verdict, space.states)


def check_graph(after, starts, facts, rows, *, justice, compassion):
    """The Verdict for the last row on the fair runs of a graph, with node numbers as states.

    A fair run on which the row is false is a fair run of the product that begins at a place which
    starts; the blocks of a search without result are those of the certificate.
    """
    require_few_promises(rows)
    known = Outlooks(rows)
    outlooks = [known.outlook(truths) for truths in facts]
    places, first, edges = reached_places(after, starts, outlooks)
    found = find_fair(
        edges, first,
        justice=product_justice(places, outlooks, justice, len(settling_rows(rows))),
        compassion=product_compassion(places, compassion),
    )
    if found[0] == "cycle":
        _, stem, loop = found
        return Verdict(False, None, nodes_at(places, stem), nodes_at(places, loop))
    told = [(node, known.promises[number]) for node, number in places]
    return Verdict(True, Certificate(told, found[1]), None, None)


def nodes_at(places, indexes):
    """The nodes of the places with these indexes."""
    return [places[index][0] for index in indexes]

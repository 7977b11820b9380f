"""A check of a system as a check of the graph of its space (points 7.7 and 7.8)."""

from lassoproof.checking.outlooks import require_few_promises
from lassoproof.checking.verdicts import Certificate, Verdict
from lassoproof.formulas.rows import number_rows
from lassoproof.language.values import require_names
from lassoproof.systems.states import fairness_in, truths_in
from lassoproof.systems.space import explore


class Question:
    """The space of a system, the rows of a formula, and what a check asks of each state."""

    def __init__(self, space, rows, facts, justice, compassion):
        self.space = space
        self.rows = rows
        self.facts = facts
        self.justice = justice
        self.compassion = compassion


def question_of(system, formula, limit):
    """The Question of a check; raises the errors of point 7.7 in their order."""
    require_names(formula, system.names)
    rows = number_rows(formula)
    require_few_promises(rows)
    space = explore(system, limit=limit)
    facts = [truths_in(system, rows.facts, state) for state in space.states]
    justice, compassion = fairness_in(system, space.states)
    return Question(space, rows, facts, justice, compassion)


def with_states(verdict, states):
    """The Verdict with the states in place of their numbers."""
    if verdict.holds:
        places = [(states[node], promises) for node, promises in verdict.certificate.places]
        return Verdict(True, Certificate(places, verdict.certificate.blocks), None, None)
    stem = [states[node] for node in verdict.stem]
    return Verdict(False, None, stem, [states[node] for node in verdict.loop])

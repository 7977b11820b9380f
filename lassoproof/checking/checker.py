"""The checker of certificates and lassos (points 7.5 and 7.6)."""

from lassoproof.checking.claims import Claim
from lassoproof.checking.outlooks import require_few_promises
from lassoproof.fairness.blocks import accepts_blocks
from lassoproof.fairness.cycles import is_fair
from lassoproof.formulas.rows import number_rows
from lassoproof.lassos.meaning import true_on
from lassoproof.language.values import require_names
from lassoproof.systems.states import fairness_in, is_initial


def accepts(system, formula, certificate):
    """Whether a certificate shows that a formula is true on every fair run of a system."""
    require_names(formula, system.names)
    rows = number_rows(formula)
    require_few_promises(rows)
    claim = Claim(system, rows)
    if not claim.takes(certificate.places) or not claim.has_starting():
        return False
    edges = claim.edges()
    if edges is None:
        return False
    justice, compassion = claim.fairness()
    indexes = list(range(len(edges)))
    return accepts_blocks(
        edges, indexes, certificate.blocks, justice=justice, compassion=compassion,
    )


def is_run(system, stem, loop):
    """Whether a lasso is a run of a system.

    The successors of a state are asked only after the way to it was found right, because a lasso
    may hold anything.
    """
    states = stem + loop
    if not loop or not is_initial(system, states[0]):
        return False
    return all(
        ahead in system.successors(state) for state, ahead in zip(states, states[1:] + loop[:1])
    )


def is_fair_run(system, stem, loop):
    """Whether a lasso is a fair run of a system."""
    if not is_run(system, stem, loop):
        return False
    justice, compassion = fairness_in(system, loop)
    return is_fair(list(range(len(loop))), justice=justice, compassion=compassion)


def refutes(system, formula, stem, loop):
    """Whether a lasso is a fair run of a system on which a formula is false."""
    require_names(formula, system.names)
    return is_fair_run(system, stem, loop) and not true_on(formula, system.names, stem, loop)

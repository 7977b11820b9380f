"""Numbering the subformulas of a branching formula (point 10.2)."""

from lassoproof.formulas.rows import number_rows


def number_branches(formula):
    """The Rows of a branching formula; the temporal ones are those of the eight words of paths."""
    return number_rows(formula)

"""Branching time: formulas over paths, their answers, and the checker of answers."""

"""Checking formulas: the truths at the places of a run, and the verdicts."""

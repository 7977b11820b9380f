"""Transforming formulas."""

"""Lassoproof: a model checker whose every answer comes with a certificate or a lasso."""

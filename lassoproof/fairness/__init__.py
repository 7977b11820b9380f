"""Fairness on graphs: fair loops, blocks without fair runs, and the search for either."""

"""Graphs as lists of successors: ways, components and round trips."""

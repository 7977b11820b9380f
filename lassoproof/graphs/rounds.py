"""Closed walks through strongly connected members (point 4.4)."""

from lassoproof.graphs.walks import edges_within, shortest_path


def round_trip(after, members, targets):
    """A closed walk within the members that contains all targets."""
    inner = edges_within(after, members)
    index_of = {node: index for index, node in enumerate(members)}
    wanted = [index_of[node] for node in targets]
    return [members[index] for index in round_of(inner, wanted)]


def round_of(after, targets):
    """A closed walk in a strongly connected graph through all targets.

    Each leg leads to the nearest target that is still missing, and the last one leads home. A leg
    has at most as many nodes as the graph, and there are as many legs as different targets.
    """
    home = targets[0] if targets else 0
    missing = {target: True for target in targets if target != home}
    walk = []
    here = home
    while missing:
        leg = shortest_path(after, after[here], list(missing))
        walk.extend(leg)
        here = leg[-1]
        del missing[here]
    return walk + shortest_path(after, after[here], [home])

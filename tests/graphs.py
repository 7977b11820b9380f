"""Random graphs, and what can be said of small graphs by trying everything, for tests."""

from itertools import combinations


def random_graph(random, count, density):
    """A graph with this many nodes, in which each edge is there with the same chance."""
    return [
        [ahead for ahead in range(count) if random.random() < density] for _ in range(count)
    ]


def random_part(random, count, chance):
    """Some of the nodes, in ascending order."""
    return [node for node in range(count) if random.random() < chance]


def random_list(random, nodes, longest=4):
    """Some of the nodes in any order, perhaps some of them twice."""
    if not nodes:
        return []
    return [random.choice(nodes) for _ in range(random.randrange(longest + 1))]


def is_walk(after, nodes):
    return all(ahead in after[node] for node, ahead in zip(nodes, nodes[1:]))


def is_closed_walk(after, nodes):
    return bool(nodes) and is_walk(after, nodes + nodes[:1])


def least_steps(after):
    """For each pair of nodes the least number of edges between them, or None (Floyd)."""
    count = len(after)
    steps = [[0 if a == b else (1 if b in after[a] else None) for b in range(count)]
             for a in range(count)]
    for middle in range(count):
        for a in range(count):
            for b in range(count):
                if steps[a][middle] is not None and steps[middle][b] is not None:
                    found = steps[a][middle] + steps[middle][b]
                    if steps[a][b] is None or found < steps[a][b]:
                        steps[a][b] = found
    return steps


def cut_down(after, members):
    """The graph without the edges from or to nodes that are no members."""
    return [[ahead for ahead in following if node in members and ahead in members]
            for node, following in enumerate(after)]


def is_knit(after, members):
    """Whether members are strongly connected by the edges between them, with one at least."""
    inner = cut_down(after, members)
    if not any(inner):
        return False
    steps = least_steps(inner)
    return all(steps[a][b] is not None for a in members for b in members)


def knit_parts(after, nodes):
    """All sets of these nodes in which a run can stay and see all of them again and again."""
    return [
        list(part) for length in range(1, len(nodes) + 1)
        for part in combinations(nodes, length) if is_knit(after, part)
    ]

"""Distances and shortest paths in graphs (point 4.2), and the part of a graph within members."""


def reachable(after, starts):
    """The nodes that can be reached from a start, in ascending order."""
    found = distances(after, starts)
    return [node for node, distance in enumerate(found) if distance is not None]


def distances(after, starts):
    """For each node the least number of edges of a path from a start to it, or None."""
    found = [None] * len(after)
    for start in starts:
        found[start] = 0
    queue = sorted(set(starts))
    done = 0
    while done < len(queue):
        node = queue[done]
        done += 1
        for ahead in after[node]:
            if found[ahead] is None:
                found[ahead] = found[node] + 1
                queue.append(ahead)
    return found


def shortest_path(after, starts, goals):
    """A path from a start to a goal with the fewest nodes, or None."""
    wanted = {goal: True for goal in goals}
    for start in starts:
        if start in wanted:
            return [start]
    before = {start: None for start in starts}
    queue = list(before)
    done = 0
    while done < len(queue):
        node = queue[done]
        done += 1
        for ahead in after[node]:
            if ahead not in before:
                before[ahead] = node
                if ahead in wanted:
                    return path_to(ahead, before)
                queue.append(ahead)
    return None


def path_to(goal, before):
    """The path to a goal, from a dict that tells for each node the one before it, or None."""
    path = []
    node = goal
    while node is not None:
        path.append(node)
        node = before[node]
    path.reverse()
    return path


def edges_within(after, members):
    """The graph of the edges between members, whose nodes are the indexes of the members."""
    index_of = {node: index for index, node in enumerate(members)}
    return [
        [index_of[ahead] for ahead in after[node] if ahead in index_of] for node in members
    ]

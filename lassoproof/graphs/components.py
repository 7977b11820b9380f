"""The strongly connected components of a part of a graph (point 4.3)."""

from lassoproof.graphs.walks import edges_within


def components(after, members):
    """The components of the members, so that every edge leads into the same or a later one.

    The node that a search in depth leaves last can reach whatever reaches it. So going back
    along the edges from it finds its component, which no edge enters; likewise among the rest.
    """
    inner = edges_within(after, members)
    before = turned_round(inner)
    seen = [False] * len(inner)
    found = []
    for root in reversed(order_of_leaving(inner)):
        if not seen[root]:
            found.append([members[index] for index in sorted(gathered(before, root, seen))])
    return found


def turned_round(after):
    """The graph with every edge turned round."""
    before = [[] for _ in after]
    for node, following in enumerate(after):
        for ahead in following:
            before[ahead].append(node)
    return before


def order_of_leaving(after):
    """All nodes in the order in which a search in depth leaves them."""
    seen = [False] * len(after)
    order = []
    for root in range(len(after)):
        if not seen[root]:
            order.extend(left_from(after, root, seen))
    return order


def left_from(after, root, seen):
    """The nodes that a search in depth from a root leaves, in order; it notes what it has seen.

    The path and the next edge of each of its nodes are kept in lists, because paths are too long
    for calls within calls.
    """
    order = []
    path = [root]
    edges = [0]
    seen[root] = True
    while path:
        following = after[path[-1]]
        if edges[-1] == len(following):
            order.append(path.pop())
            edges.pop()
        else:
            ahead = following[edges[-1]]
            edges[-1] += 1
            if not seen[ahead]:
                seen[ahead] = True
                path.append(ahead)
                edges.append(0)
    return order


def gathered(after, root, seen):
    """The nodes that can be reached from a root past nodes that were not seen; notes them."""
    found = [root]
    done = 0
    seen[root] = True
    while done < len(found):
        node = found[done]
        done += 1
        for ahead in after[node]:
            if not seen[ahead]:
                seen[ahead] = True
                found.append(ahead)
    return found

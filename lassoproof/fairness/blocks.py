"""The checker of blocks, which show that no run is fair (points 6.3 and 6.4)."""

from lassoproof.fairness.cycles import meets


def accepts_blocks(after, nodes, blocks, *, justice, compassion):
    """Whether blocks are accepted for nodes of a graph, an ascending list.

    Inner blocks wait in a list, so that deep blocks need no calls within calls.
    """
    if not are_nodes(nodes, len(after)):
        return False
    barred = [dict_of(wanted) for wanted in justice]
    pairs = [(dict_of(first), dict_of(second)) for first, second in compassion]
    waiting = [(nodes, blocks)]
    while waiting:
        given, offered = waiting.pop()
        if not divides(offered, given) or not leads_on(after, offered):
            return False
        for block in offered:
            if not has_reason(after, block, barred, pairs):
                return False
            if block[0] == "compassion":
                waiting.append((outside(block[2], pairs[block[1]][0]), block[3]))
    return True


def dict_of(nodes):
    """A dict that has the nodes as keys."""
    return {node: True for node in nodes}


def outside(nodes, table):
    """The nodes that are no keys of a dict."""
    return [node for node in nodes if node not in table]


def ascends(nodes):
    """Whether each number is below the next one."""
    return all(node < ahead for node, ahead in zip(nodes, nodes[1:]))


def are_nodes(nodes, count):
    """Whether numbers ascend and are nodes of a graph with that many nodes."""
    return not nodes or (ascends(nodes) and nodes[0] >= 0 and nodes[-1] < count)


def divides(blocks, nodes):
    """Whether each of the nodes is in exactly one block, and the blocks have no other nodes."""
    left = dict_of(nodes)
    for _, _, members, _ in blocks:
        if not members or not ascends(members):
            return False
        for node in members:
            if node not in left:
                return False
            del left[node]
    return not left


def leads_on(after, blocks):
    """Whether no edge leads from a block into an earlier one."""
    earlier = {}
    for _, _, members, _ in blocks:
        if any(meets(after[node], earlier) for node in members):
            return False
        earlier.update(dict_of(members))
    return True


def has_reason(after, block, barred, pairs):
    """Whether the reason of a block holds, apart from its inner blocks after compassion."""
    reason, number, members, inner = block
    if reason == "once":
        return number == 0 and not inner and not has_edge(after, members)
    if reason == "justice":
        return 0 <= number < len(barred) and not inner and not meets(members, barred[number])
    if reason == "compassion":
        return 0 <= number < len(pairs) and not meets(members, pairs[number][1])
    return False


def has_edge(after, members):
    """Whether an edge leads from a member to a member."""
    table = dict_of(members)
    return any(meets(after[node], table) for node in members)

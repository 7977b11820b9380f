"""Fairness on small graphs by the words of section 6, for tests."""

from tests.graphs import knit_parts, random_list


def random_conditions(random, count, most=3):
    """Random lists of justice and pairs of compassion for a graph with this many nodes."""
    nodes = list(range(count))
    justice = [random_list(random, nodes, 5) for _ in range(random.randrange(most))]
    compassion = [(random_list(random, nodes, 3), random_list(random, nodes, 2))
                  for _ in range(random.randrange(most + 1))]
    return justice, compassion


def is_fair_part(part, justice, compassion):
    """Whether a run is fair that sees just these nodes again and again."""
    seen = set(part)
    return all(seen & set(nodes) for nodes in justice) and all(
        seen & set(second) for first, second in compassion if seen & set(first)
    )


def has_fair_run(after, nodes, justice, compassion):
    """Whether a run can stay within the nodes and be fair."""
    return any(is_fair_part(part, justice, compassion) for part in knit_parts(after, nodes))


def accepted(after, nodes, blocks, justice, compassion):
    """Whether blocks are accepted by the words of point 6.3."""
    for _, _, members, _ in blocks:
        if not members or members != sorted(set(members)):
            return False
    if sorted(node for block in blocks for node in block[2]) != nodes:
        return False
    place = {node: k for k, block in enumerate(blocks) for node in block[2]}
    for node in nodes:
        for ahead in after[node]:
            if ahead in nodes and place[ahead] < place[node]:
                return False
    return all(holds(after, block, justice, compassion) for block in blocks)


def holds(after, block, justice, compassion):
    reason, number, members, inner = block
    if reason == "once":
        return number == 0 and inner == [] and not any(
            ahead in after[node] for node in members for ahead in members)
    if reason == "justice":
        return number in range(len(justice)) and inner == [] and not (
            set(members) & set(justice[number]))
    if reason == "compassion" and number in range(len(compassion)):
        first, second = compassion[number]
        rest = [node for node in members if node not in first]
        return not set(members) & set(second) and accepted(after, rest, inner, justice, compassion)
    return False


def levels(blocks):
    """How many levels of blocks there are; the outermost ones are on level 1."""
    return max([1 + levels(block[3]) for block in blocks], default=0)


def all_blocks(blocks):
    """Blocks and their inner blocks."""
    return blocks + [inner for block in blocks for inner in all_blocks(block[3])]

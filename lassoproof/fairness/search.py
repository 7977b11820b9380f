"""The search for a fair cycle or for blocks that show that there is none (point 6.5)."""

from lassoproof.fairness.marks import Marks, lowest, nodes_with, united
from lassoproof.graphs.components import components
from lassoproof.graphs.rounds import round_trip
from lassoproof.graphs.walks import reachable, shortest_path


def find_fair(after, starts, *, justice, compassion):
    """("cycle", stem, loop) with a fair loop, or ("blocks", blocks) for all reachable nodes."""
    marks = Marks(len(after), justice, compassion)
    kind, found = searched(after, reachable(after, starts), marks)
    if kind == "blocks":
        return (kind, found)
    path = shortest_path(after, starts, found)
    turn = found.index(path[-1])
    return (kind, path[:-1], found[turn:] + found[:turn])


def searched(after, nodes, marks):
    """("cycle", loop) with a fair loop within the nodes, or ("blocks", blocks) for them."""
    blocks = []
    for members in components(after, nodes):
        kind, found = judged(after, members, marks)
        if kind == "cycle":
            return (kind, found)
        blocks.append(found)
    return ("blocks", blocks)


def judged(after, members, marks):
    """("cycle", loop) with a fair loop in a component, or ("block", block) if there is none."""
    if len(members) == 1 and members[0] not in after[members[0]]:
        return ("block", ("once", 0, members, []))
    missed = marks.every_justice & ~united(marks.in_justice, members)
    if missed:
        return ("block", ("justice", lowest(missed), members, []))
    asked = united(marks.in_first, members)
    broken = asked & ~united(marks.in_second, members)
    if broken:
        return without_first(after, members, marks, lowest(broken))
    return ("cycle", fair_loop(after, members, marks, asked))


def without_first(after, members, marks, number):
    """The answer for a component that has nodes of the first list of a pair, none of the second.

    What is left has no node of the first list. So the pair is never met again further in, and
    there are at most as many levels around a block as pairs.
    """
    rest = [node for node in members if not marks.in_first[node] & (1 << number)]
    kind, found = searched(after, rest, marks)
    if kind == "cycle":
        return (kind, found)
    return ("block", ("compassion", number, members, found))


def fair_loop(after, members, marks, asked):
    """A loop through a component that has nodes of all justice lists and of all second lists
    that are asked for."""
    targets = nodes_with(marks.in_justice, members, marks.every_justice)
    return round_trip(after, members, targets + nodes_with(marks.in_second, members, asked))

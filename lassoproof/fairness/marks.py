"""The lists of the conditions of fairness that each node is in.

They are the bits of one integer for each node, so that a component can be asked for all lists
at once, however many there are.
"""


class Marks:
    """For each node the lists of justice and the first and second lists of pairs that it is in.

    Bit k stands for list k of justice or for pair k of compassion.
    """

    def __init__(self, count, justice, compassion):
        self.every_justice = (1 << len(justice)) - 1
        self.in_justice = marks_of(count, justice)
        self.in_first = marks_of(count, [first for first, _ in compassion])
        self.in_second = marks_of(count, [second for _, second in compassion])


def marks_of(count, lists):
    """For each node the integer whose bit k is set if the node is in list k."""
    found = [0] * count
    for number, nodes in enumerate(lists):
        for node in nodes:
            found[node] = found[node] | (1 << number)
    return found


def united(marks, nodes):
    """The marks that some of the nodes have."""
    found = 0
    for node in nodes:
        found = found | marks[node]
    return found


def lowest(mark):
    """The number of the lowest bit of an integer above 0."""
    return (mark & -mark).bit_length() - 1


def nodes_with(marks, nodes, wanted):
    """Some of the nodes that have all wanted marks together, at most one for each mark."""
    found = []
    missing = wanted
    for node in nodes:
        if marks[node] & missing:
            found.append(node)
            missing = missing & ~marks[node]
    return found

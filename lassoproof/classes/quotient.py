"""The quotient of a labelled graph by its classes (point 9.4)."""

from lassoproof.classes.partition import classes


class Quotient:
    """The class of each node, and the graph, the starts and the labels of the classes."""

    def __init__(self, class_of, after, starts, labels):
        self.class_of = list(class_of)
        self.after = [list(following) for following in after]
        self.starts = list(starts)
        self.labels = list(labels)


def quotient(after, starts, labels):
    """The Quotient of a labelled graph.

    Each node of a class has successors in the same classes, so that its first node tells all.
    """
    class_of = classes(after, labels)
    firsts = first_nodes(class_of)
    edges = [sorted({class_of[ahead] for ahead in after[node]}) for node in firsts]
    first_classes = sorted({class_of[start] for start in starts})
    return Quotient(class_of, edges, first_classes, [labels[node] for node in firsts])


def first_nodes(class_of):
    """The first node of each class."""
    found = []
    for node, number in enumerate(class_of):
        if number == len(found):
            found.append(node)
    return found

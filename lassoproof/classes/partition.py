"""Telling nodes apart in rounds, and the classes of nodes that are never told apart (9.1, 9.2)."""

from lassoproof.graphs.components import turned_round


class Partition:
    """The nodes of a graph in groups that are split round by round until nothing is left to tell.

    splits has one list for each round: of each group that it split, the parts. Nodes of one group
    had successors in the same groups one round before. So it is enough to look at the nodes that
    have successors in new groups. The largest part of a group keeps its number, which makes the
    new groups small.
    """

    def __init__(self, after, labels):
        self.group_of = [-1] * len(after)
        self.groups = []
        self.splits = []
        self._before = turned_round(after)
        self._counts = [{-1: len(following)} for following in after]
        parts = parted(list(range(len(after))), labels)
        self.splits.append([parts])
        news = {}
        for part in parts:
            self.move(part, news)
        while news:
            news = self.split_by(news)

    def move(self, nodes, news):
        """Moves nodes of one group into a new one, and notes which nodes it follows.

        news has, for each node that a new group follows, a dict from the numbers of such groups
        to those of the groups which they came from.
        """
        number = len(self.groups)
        self.groups.append(nodes)
        for node in nodes:
            old = self.group_of[node]
            self.group_of[node] = number
            for behind in self._before[node]:
                counts = self._counts[behind]
                counts[old] = counts[old] - 1
                counts[number] = counts.get(number, 0) + 1
                origins = news.setdefault(behind, {})
                origins[number] = old

    def split_by(self, news):
        """Does one round after the last one made new groups; returns what is new after it."""
        keys = [()] * len(self.group_of)
        for node in news:
            keys[node] = self.key(node, news[node])
        touched = sorted({self.group_of[node] for node in news})
        splits = [parted(self.groups[number], keys) for number in touched]
        splits = [parts for parts in splits if len(parts) > 1]
        self.splits.append(splits)
        further = {}
        for parts in splits:
            kept = largest(parts)
            self.groups[self.group_of[parts[kept][0]]] = parts[kept]
            for part in parts[:kept] + parts[kept + 1:]:
                self.move(part, further)
        return further

    def key(self, node, origins):
        """What the new groups that follow a node tell of it, as numbers."""
        counts = self._counts[node]
        return tuple(sorted([(number, counts[old] > 0) for number, old in origins.items()]))


def parted(nodes, keys):
    """The nodes in lists of those with the same key."""
    parts = {}
    for node in nodes:
        parts.setdefault(keys[node], []).append(node)
    return list(parts.values())


def largest(parts):
    """The index of a longest list."""
    return max(list(range(len(parts))), key=lambda index: len(parts[index]))


def rounds_apart(after, labels):
    """For each node the list, for each node, of the rounds that tell them apart, or None."""
    apart = [[None] * len(after) for _ in after]
    for number, splits in enumerate(Partition(after, labels).splits):
        for parts in splits:
            note_apart(apart, parts, number)
    return apart


def note_apart(apart, parts, number):
    """Notes the number of rounds for all nodes of different parts."""
    for index, part in enumerate(parts):
        others = [node for rest in parts[:index] + parts[index + 1:] for node in rest]
        for node in part:
            for other in others:
                apart[node][other] = number


def classes(after, labels):
    """For each node the number of its class, in the order of their first nodes."""
    number_of = {}
    found = []
    for group in Partition(after, labels).group_of:
        found.append(number_of.setdefault(group, len(number_of)))
    return found

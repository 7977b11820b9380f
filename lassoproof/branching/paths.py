"""The truth of a branching formula at a node, as far as its surroundings tell it (point 10.3).

Six of the words ask whether paths reach a goal. For ag and eg the goal is a node at which the
part is false, and the row is false where it is reached.
"""

from lassoproof.formulas.expansions import expanded

# Whether all paths have to reach the goal, and the truth of the row where they do.
REACHING = {
    "ef": (False, True), "eu": (False, True), "af": (True, True), "au": (True, True),
    "ag": (False, False), "eg": (True, False),
}


def goal_at(row, truths, node):
    """Whether a node is a goal of a row that asks for one, and whether paths may pass it."""
    word, left, right = row
    if right >= 0:
        return truths[right][node], truths[left][node]
    return truths[left][node] == REACHING[word][1], True


def truth_at(row, truths, after, facts, node):
    """The truth at a node of a row that asks for no goal, from the truths of earlier rows."""
    word, left, right = row
    if word == "fact":
        return facts[node][left]
    if word == "true" or word == "false":
        return word == "true"
    if word == "ex":
        return any(truths[left][ahead] for ahead in after[node])
    if word == "ax":
        return all(truths[left][ahead] for ahead in after[node])
    other = truths[right][node] if right >= 0 else None
    return expanded(word, truths[left][node], other, None)

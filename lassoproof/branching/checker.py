"""The checker of answers, which looks at each node and its successors alone (point 10.4)."""

from lassoproof.branching.paths import REACHING, goal_at, truth_at


def accepts_answer(after, facts, rows, found):
    """Whether the truths and the ranks of an Answer are right."""
    count = len(after)
    if not fits(found.truths, rows, count) or not fits(found.ranks, rows, count):
        return False
    for number, row in enumerate(rows.rows):
        for node in range(count):
            given = (found.truths[number][node], found.ranks[number][node])
            if given != told_at(row, number, node, after, facts, found):
                return False
    return True


def fits(lists, rows, count):
    """Whether there is one list for each row, with one item for each node."""
    return len(lists) == len(rows.rows) and all(len(items) == count for items in lists)


def told_at(row, number, node, after, facts, found):
    """The truth and the rank of a row at a node, if those of the successors are right."""
    if row[0] not in REACHING:
        return truth_at(row, found.truths, after, facts, node), -1
    on_all, held = REACHING[row[0]]
    is_goal, is_passed = goal_at(row, found.truths, node)
    if is_goal:
        return held, 0
    ranks = ranks_ahead(after[node], found.truths[number], found.ranks[number], held)
    if not is_passed or not ranks or (on_all and len(ranks) < len(after[node])):
        return not held, -1
    return held, 1 + (max(ranks) if on_all else min(ranks))


def ranks_ahead(following, truths, ranks, held):
    """The ranks of those successors from which the goal is reached."""
    return [ranks[ahead] for ahead in following if truths[ahead] == held]

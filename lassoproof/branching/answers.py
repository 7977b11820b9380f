"""The truths and the ranks of branching formulas at the nodes of a graph (points 10.3, 10.5)."""

from lassoproof.branching.formulas import number_branches
from lassoproof.branching.paths import REACHING, goal_at, truth_at
from lassoproof.graphs.components import turned_round
from lassoproof.language.values import require_names
from lassoproof.systems.space import explore
from lassoproof.systems.states import truths_in


class Answer:
    """For each row the lists of its truths and of its ranks, with one item for each node."""

    def __init__(self, truths, ranks):
        self.truths = [list(items) for items in truths]
        self.ranks = [list(items) for items in ranks]


def answer(after, facts, rows):
    """The Answer for the rows of a branching formula at the nodes of a graph."""
    before = turned_round(after)
    truths = []
    ranks = []
    for row in rows.rows:
        if row[0] in REACHING:
            on_all, held = REACHING[row[0]]
            found = ranks_of(row, truths, before, needed_successors(after, on_all))
            here = [(rank >= 0) == held for rank in found]
        else:
            found = [-1] * len(after)
            here = [truth_at(row, truths, after, facts, node) for node in range(len(after))]
        truths.append(here)
        ranks.append(found)
    return Answer(truths, ranks)


def needed_successors(after, on_all):
    """For each node how many of its successors have to reach a goal, so that it does."""
    return [len(following) if on_all else 1 for following in after]


def ranks_of(row, truths, before, needed):
    """The ranks of a row that asks for a goal, -1 where it is not reached.

    Nodes come in ascending order of their ranks. So the first successor that comes has the least
    rank, and the last one the largest.
    """
    ranks = [-1] * len(before)
    queue = [node for node in range(len(before)) if goal_at(row, truths, node)[0]]
    for node in queue:
        ranks[node] = 0
    missing = list(needed)
    done = 0
    while done < len(queue):
        node = queue[done]
        done += 1
        for behind in before[node]:
            missing[behind] -= 1
            if missing[behind] == 0 and ranks[behind] < 0 and goal_at(row, truths, behind)[1]:
                ranks[behind] = ranks[node] + 1
                queue.append(behind)
    return ranks


def answer_system(system, formula, *, limit=2000):
    """Whether a branching formula is true at all initial states of a system."""
    require_names(formula, system.names)
    rows = number_branches(formula)
    space = explore(system, limit=limit)
    facts = [truths_in(system, rows.facts, state) for state in space.states]
    last = answer(space.after, facts, rows).truths[-1]
    return all(last[start] for start in space.starts)

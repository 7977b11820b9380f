"""The states of a system that can be reached, as a graph (points 5.5 and 5.6)."""

from lassoproof.errors import TooManyStates


class Space:
    """States, the numbers of the initial ones, and for each state those of its successors."""

    def __init__(self, states, starts, after):
        self.states = list(states)
        self.starts = list(starts)
        self.after = [list(following) for following in after]


def explore(system, *, limit=2000):
    """The Space of a system."""
    starts = system.initial_states()
    successors = successors_of_reached(system, starts, limit)
    states = sorted(successors)
    number_of = {state: number for number, state in enumerate(states)}
    after = [[number_of[ahead] for ahead in successors[state]] for state in states]
    return Space(states, [number_of[state] for state in starts], after)


def successors_of_reached(system, starts, limit):
    """A dict from each state that can be reached to the list of its successors.

    The limit is asked after each state, because there may be far too many states to find them all.
    """
    known = {state: True for state in starts}
    waiting = list(starts)
    found = {}
    while waiting:
        state = waiting.pop()
        found[state] = system.successors(state)
        for ahead in found[state]:
            if ahead not in known:
                known[ahead] = True
                waiting.append(ahead)
        if len(known) > limit:
            raise TooManyStates(limit)
    return found

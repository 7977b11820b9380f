"""What is so in single states of a system: ranges, facts and conditions of fairness."""

from lassoproof.language.values import holds


def is_state(system, state):
    """Whether integers are one value within its range for each variable."""
    return within(state, [(low, high) for _, low, high, _, _ in system.variables])


def is_initial(system, state):
    """Whether integers are an initial state."""
    return within(state, [(first, last) for _, _, _, first, last in system.variables])


def within(state, ranges):
    """Whether there is one value for each range, from its first to its last number."""
    if len(state) != len(ranges):
        return False
    return all(first <= number <= last for number, (first, last) in zip(state, ranges))


def truths_in(system, conditions, state):
    """The truths of conditions in a state, if all their names are variables."""
    values = dict(zip(system.names, state))
    return [holds(condition, values) for condition in conditions]


def fairness_in(system, states):
    """Justice and compassion of a system as lists of indexes of states (point 6.1)."""
    justice = [indexes_where(system, condition, states) for condition in system.justice]
    compassion = [
        (indexes_where(system, first, states), indexes_where(system, second, states))
        for first, second in system.compassion
    ]
    return justice, compassion


def indexes_where(system, condition, states):
    """The indexes of the states in which a condition is true."""
    return [
        index for index, state in enumerate(states) if truths_in(system, [condition], state)[0]
    ]

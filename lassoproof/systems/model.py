"""Systems, their initial states and their moves (points 5.1 to 5.4)."""

from lassoproof.language.values import holds, number_of, require_names
from lassoproof.systems.labels import labelled_commands, unlabelled_commands
from lassoproof.systems.validity import require_valid


class System:
    """A system: variables, processes, and conditions of justice and of compassion."""

    def __init__(self, variables, processes, justice, compassion):
        require_valid(variables, processes, justice, compassion)
        self.variables = list(variables)
        self.processes = [(name, copied_commands(commands)) for name, commands in processes]
        self.justice = list(justice)
        self.compassion = list(compassion)
        self.names = [variable[0] for variable in variables]
        self._ranges = ranges_by_name(self.variables)
        self._groups = move_groups(self.processes)

    def initial_states(self):
        """The initial states in ascending order."""
        states = [()]
        for _, _, _, first, last in self.variables:
            states = [state + (number,) for state in states for number in range(first, last + 1)]
        return states

    def truth(self, condition, state):
        """Whether a condition is true in a state."""
        values = dict(zip(self.names, state))
        require_names(condition, values)
        return holds(condition, values)

    def successors(self, state):
        """The states after the moves from a state, in ascending order."""
        values = dict(zip(self.names, state))
        found = set()
        for group in self._groups:
            choices = [possible_changes(commands, values, self._ranges) for commands in group]
            for moved in states_after(state, choices):
                found.add(moved)
        if not found:
            return [state]
        return sorted(found)


def copied_commands(commands):
    """New commands with new lists of assignments."""
    return [(label, guard, list(assignments)) for label, guard, assignments in commands]


def ranges_by_name(variables):
    """For each name its index in a state, its least and its largest value."""
    ranges = {}
    for index, (name, low, high, _, _) in enumerate(variables):
        ranges[name] = (index, low, high)
    return ranges


def move_groups(processes):
    """Lists of lists of commands: a move takes one command from each list of a group."""
    alone = [[[command]] for command in unlabelled_commands(processes)]
    return alone + list(labelled_commands(processes).values())


def possible_changes(commands, values, ranges):
    """The changes of those commands that can take part in a move."""
    found = [changes_of(command, values, ranges) for command in commands]
    return [changes for changes in found if changes is not None]


def changes_of(command, values, ranges):
    """The pairs of index and new value of a command, or None if it cannot take part.

    A value out of range bars every joint move of the command, because no other process
    assigns the same variable in it.
    """
    _, guard, assignments = command
    if not holds(guard, values):
        return None
    changes = []
    for name, term in assignments:
        index, low, high = ranges[name]
        number = number_of(term, values)
        if not low <= number <= high:
            return None
        changes.append((index, number))
    return changes


def states_after(state, choices):
    """The states after each choice of one item of every list of changes."""
    if [] in choices:
        return []
    states = [state]
    for options in choices:
        states = [changed(before, changes) for before in states for changes in options]
    return states


def changed(state, changes):
    """A state with some values replaced."""
    values = list(state)
    for index, number in changes:
        values[index] = number
    return tuple(values)

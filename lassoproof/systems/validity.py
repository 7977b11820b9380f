"""The errors of making a system, in their order (point 5.2)."""

from lassoproof.errors import DuplicateName, InvalidRange, SharedAssignment, UnknownName
from lassoproof.language.values import require_names
from lassoproof.systems.labels import labelled_commands


def require_valid(variables, processes, justice, compassion):
    """Raises the first error of what should be a system."""
    require_variables(variables)
    names = [variable[0] for variable in variables]
    require_processes(processes, names)
    groups = labelled_commands(processes)
    for label in groups:
        require_unshared(label, groups[label], names)
    for condition in justice:
        require_names(condition, names)
    for first, second in compassion:
        require_names(first, names)
        require_names(second, names)


def require_variables(variables):
    """Raises the first error in the variables."""
    seen = set()
    for name, low, high, first, last in variables:
        if name in seen:
            raise DuplicateName(name)
        if not low <= first <= last <= high:
            raise InvalidRange(name)
        seen.add(name)


def require_processes(processes, names):
    """Raises the first error in the processes and their commands."""
    seen = set()
    for name, commands in processes:
        if name in seen:
            raise DuplicateName(name)
        seen.add(name)
        for _, guard, assignments in commands:
            require_names(guard, names)
            require_assignments(assignments, names)


def require_assignments(assignments, names):
    """Raises the first error in the assignments of a command."""
    seen = set()
    for name, term in assignments:
        if name not in names:
            raise UnknownName(name)
        if name in seen:
            raise DuplicateName(name)
        seen.add(name)
        require_names(term, names)


def require_unshared(label, lists, names):
    """Raises an error if two processes assign the same variable in commands with a label."""
    counts = {}
    for commands in lists:
        for name in assigned_names(commands):
            counts[name] = counts.get(name, 0) + 1
    for name in names:
        if counts.get(name, 0) > 1:
            raise SharedAssignment(label, name)


def assigned_names(commands):
    """The variables that the commands assign, each once."""
    return sorted({name for _, _, assignments in commands for name, _ in assignments})

"""Writing a system (point 5.8)."""

from lassoproof.language.writer import write_formula, write_term


def write_system(system):
    """The text of a system."""
    lines = [write_variable(variable) for variable in system.variables]
    for name, commands in system.processes:
        lines.append(f"process {name}")
        lines.extend([write_command(command) for command in commands])
    for condition in system.justice:
        lines.append(f"justice {write_formula(condition)}")
    for first, second in system.compassion:
        lines.append(f"compassion {write_formula(first)} : {write_formula(second)}")
    return "\n".join(lines)


def write_variable(variable):
    """The line of a variable; one initial value is written once."""
    name, low, high, first, last = variable
    initial = f"{first}..{last}" if first < last else str(first)
    return f"var {name} in {low}..{high} start {initial}"


def write_command(command):
    """The line of a command, with its label or without one."""
    label, guard, assignments = command
    line = f"when {write_formula(guard)} do {write_assignments(assignments)}"
    if label == "":
        return line
    return f"{label}: {line}"


def write_assignments(assignments):
    """What a command does; without an assignment it is the word `skip`."""
    if not assignments:
        return "skip"
    return ", ".join([f"{name} := {write_term(term)}" for name, term in assignments])

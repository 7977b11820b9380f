"""The commands of a system that move jointly."""


def labelled_commands(processes):
    """For each label, in the order of their first commands, a list of lists of commands.

    There is one inner list for each process that has a command with the label.
    """
    groups = {}
    for _, commands in processes:
        found = commands_by_label(commands)
        for label in found:
            groups.setdefault(label, []).append(found[label])
    return groups


def commands_by_label(commands):
    """For each label of a process, in order, the list of its commands."""
    found = {}
    for command in commands:
        if command[0] != "":
            found.setdefault(command[0], []).append(command)
    return found


def unlabelled_commands(processes):
    """The commands without a label, in order."""
    return [command for _, commands in processes for command in commands if command[0] == ""]

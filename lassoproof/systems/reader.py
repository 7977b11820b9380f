"""Reading the text of a system (point 5.7)."""

from lassoproof.language.parser import Parser
from lassoproof.systems.model import System


def read_system(text):
    """The System that a text writes."""
    parser = Parser(text, False)
    skip_lines(parser)
    variables = []
    while parser.current_value() == "var":
        variables.append(read_variable(parser))
        end_line(parser)
    processes = []
    while parser.current_value() == "process":
        processes.append(read_process(parser))
    justice, compassion = read_fairness(parser)
    parser.finish()
    return System(variables, processes, justice, compassion)


def skip_lines(parser):
    """Skips all newlines that come now."""
    while parser.current_kind() == "line":
        parser.take()


def end_line(parser):
    """Takes the end of a line, with empty lines behind it, unless the text ends here."""
    if parser.current_kind() != "end":
        parser.expect_kind("line")
        skip_lines(parser)


def read_variable(parser):
    """The declaration of a variable."""
    parser.expect("var")
    name = parser.expect_kind("name")
    parser.expect("in")
    low = read_integer(parser)
    parser.expect("..")
    high = read_integer(parser)
    parser.expect("start")
    first = read_integer(parser)
    last = first
    if parser.current_value() == "..":
        parser.take()
        last = read_integer(parser)
    return (name, low, high, first, last)


def read_integer(parser):
    """A number, perhaps with a minus before it."""
    if parser.current_value() == "-":
        parser.take()
        return -parser.expect_kind("number")
    return parser.expect_kind("number")


def read_process(parser):
    """A process with all its commands."""
    parser.expect("process")
    name = parser.expect_kind("name")
    end_line(parser)
    commands = []
    while parser.current_kind() == "name" or parser.current_value() == "when":
        commands.append(read_command(parser))
        end_line(parser)
    return (name, commands)


def read_command(parser):
    """A command, with its label or without one."""
    label = ""
    if parser.current_kind() == "name":
        label = parser.expect_kind("name")
        parser.expect(":")
    parser.expect("when")
    guard = parser.whole("truth")
    parser.expect("do")
    return (label, guard, read_assignments(parser))


def read_assignments(parser):
    """What a command does: the word `skip`, or one assignment or more."""
    if parser.current_value() == "skip":
        parser.take()
        return []
    assignments = [read_assignment(parser)]
    while parser.current_value() == ",":
        parser.take()
        assignments.append(read_assignment(parser))
    return assignments


def read_assignment(parser):
    """The pair of a name and the term that is assigned to it."""
    name = parser.expect_kind("name")
    parser.expect(":=")
    return (name, parser.whole("number"))


def read_fairness(parser):
    """The conditions of justice and the pairs of compassion, whose lines may be mixed."""
    justice = []
    compassion = []
    while parser.current_value() in ("justice", "compassion"):
        _, word, _ = parser.take()
        condition = parser.whole("truth")
        if word == "justice":
            justice.append(condition)
        else:
            parser.expect(":")
            compassion.append((condition, parser.whole("truth")))
        end_line(parser)
    return justice, compassion

import unittest
from copy import deepcopy
from itertools import product
from random import Random

from lassoproof.language.reader import read_condition, read_term
from lassoproof.language.values import truth, value
from lassoproof.systems.model import System
from tests.faults import duplicate, invalid, shared, told, unknown

TRUE = ("true",)
NUMBER = ("number", 0)


def variable(name, low=0, high=3, first=0, last=0):
    return (name, low, high, first, last)


def command(label, guard, *assignments):
    """A command from texts: assignments are texts like "x := x + 1"."""
    pairs = [text.split(" := ") for text in assignments]
    return (label, read_condition(guard), [(name, read_term(term)) for name, term in pairs])


def made(variables, processes=(), justice=(), compassion=()):
    return System(list(variables), list(processes), list(justice), list(compassion))


def error(*arguments):
    return told(made, *arguments)


class Fields(unittest.TestCase):
    def test_fields_are_what_was_passed_in(self):
        variables = [variable("x"), variable("y", -2, 5, 1, 4)]
        processes = [("p", [command("a", "x < 2", "x := x + 1"), command("", "true")]), ("q", [])]
        justice = [read_condition("x = 1")]
        compassion = [(TRUE, read_condition("y > 1"))]
        system = System(variables, processes, justice, compassion)
        self.assertEqual(system.variables, variables)
        self.assertEqual(system.processes, processes)
        self.assertEqual(system.justice, justice)
        self.assertEqual(system.compassion, compassion)
        self.assertEqual(system.names, ["x", "y"])

    def test_by_keyword(self):
        system = System(variables=[], processes=[], justice=[], compassion=[])
        self.assertEqual(system.names, [])

    def test_nothing_at_all(self):
        system = made([])
        self.assertEqual(system.initial_states(), [()])
        self.assertEqual(system.successors(()), [()])

    def test_lists_that_are_changed_later_have_no_effect(self):
        assignments = [("x", read_term("x + 1"))]
        commands = [("", TRUE, assignments)]
        variables, processes = [variable("x")], [("p", commands)]
        justice, compassion = [TRUE], [(TRUE, TRUE)]
        system = System(variables, processes, justice, compassion)
        before = deepcopy([system.variables, system.processes, system.justice, system.compassion])
        assignments.append(("x", NUMBER))
        assignments[0] = ("x", NUMBER)
        commands.append(("", TRUE, [("x", read_term("3"))]))
        commands[0] = ("", TRUE, [])
        processes.append(("q", []))
        processes[0] = ("r", [])
        variables.append(variable("y"))
        variables[0] = variable("z", 0, 1, 0, 1)
        justice.clear()
        compassion.clear()
        after = [system.variables, system.processes, system.justice, system.compassion]
        self.assertEqual(after, before)
        self.assertEqual(system.names, ["x"])
        self.assertEqual(system.initial_states(), [(0,)])
        self.assertEqual(system.successors((0,)), [(1,)])

    def test_arguments_are_not_modified(self):
        variables = [variable("x", 0, 3, 0, 2)]
        processes = [("p", [command("a", "x < 2", "x := x + 1"), command("a", "true")]),
                     ("q", [command("a", "true")])]
        before = deepcopy([variables, processes])
        system = System(variables, processes, [TRUE], [(TRUE, TRUE)])
        system.initial_states()
        system.successors((1,))
        self.assertEqual([variables, processes], before)

    def test_returned_lists_are_new(self):
        system = made([variable("x", 0, 3, 0, 1)], [("p", [command("", "true", "x := 1")])])
        system.initial_states().clear()
        system.successors((0,)).clear()
        self.assertEqual(system.initial_states(), [(0,), (1,)])
        self.assertEqual(system.successors((0,)), [(1,)])


class Errors(unittest.TestCase):
    def test_names_of_variables(self):
        self.assertEqual(error([variable("x"), variable("y"), variable("x")]), duplicate("x"))

    def test_ranges_of_variables(self):
        for low, high, first, last in [(1, 0, 1, 0), (0, 3, 2, 1), (0, 3, -1, 0), (0, 3, 3, 4),
                                       (0, 3, 4, 4), (0, 3, -2, -1), (1, 0, 0, 1), (3, 0, 1, 2)]:
            self.assertEqual(error([("v", low, high, first, last)]), invalid("v"))
        for low, high, first, last in [(0, 0, 0, 0), (-5, -1, -5, -1), (0, 3, 0, 3)]:
            self.assertIsNone(error([("v", low, high, first, last)]))

    def test_variables_are_looked_at_one_by_one(self):
        bad = ("b", 1, 0, 0, 0)
        self.assertEqual(error([bad, variable("x"), variable("x")]), invalid("b"))
        self.assertEqual(error([variable("x"), variable("x"), bad]), duplicate("x"))
        self.assertEqual(error([variable("b"), bad]), duplicate("b"))

    def test_variables_come_before_processes(self):
        self.assertEqual(error([("b", 1, 0, 0, 0)], [("p", []), ("p", [])]), invalid("b"))

    def test_names_of_processes(self):
        self.assertEqual(error([], [("p", []), ("q", []), ("p", [])]), duplicate("p"))
        self.assertIsNone(error([variable("p")], [("p", [])]))

    def test_processes_are_looked_at_one_by_one(self):
        wrong = [command("", "a = 1")]
        self.assertEqual(error([], [("p", wrong), ("p", [])]), unknown("a"))
        self.assertEqual(error([], [("p", []), ("p", wrong), ("q", wrong)]), duplicate("p"))

    def test_commands(self):
        variables = [variable("x"), variable("y")]
        for commands, expected in [
            ([command("", "x = 1 or b > a")], unknown("a")),
            ([command("", "a = 1", "b := 1")], unknown("a")),
            ([command("", "true", "a := b")], unknown("a")),
            ([command("", "true", "x := c + b")], unknown("c")),
            ([command("", "true", "x := 1", "x := b")], duplicate("x")),
            ([command("", "true", "x := b", "x := 1")], unknown("b")),
            ([command("", "true", "x := 1", "a := 1", "x := 1")], unknown("a")),
            ([command("", "true", "x := 1", "y := 1", "y := 2", "a := 1")], duplicate("y")),
            ([command("", "true", "x := 1"), command("", "a = 1"), command("", "b = 1")],
             unknown("a")),
            ([command("", "true", "a := 1"), command("", "b = 1")], unknown("a")),
        ]:
            self.assertEqual(error(variables, [("p", commands)]), expected)

    def test_assignments_of_different_commands_do_not_matter(self):
        commands = [command("a", "true", "x := 1"), command("a", "true", "x := 2"),
                    command("", "true", "x := 3")]
        self.assertIsNone(error([variable("x")], [("p", commands)]))

    def test_shared_assignments(self):
        variables = [variable("x"), variable("y"), variable("z")]
        one = ("p", [command("a", "true", "z := 1", "y := 1")])
        two = ("q", [command("a", "false"), command("a", "true", "y := 1", "z := 1")])
        self.assertEqual(error(variables, [one, two]), shared("a", "y"))
        self.assertEqual(error(variables, [two, one]), shared("a", "y"))

    def test_shared_assignments_of_processes_that_are_not_neighbours(self):
        variables = [variable("x"), variable("y")]
        processes = [("p", [command("a", "true", "y := 1")]), ("q", [command("a", "true")]),
                     ("r", [command("a", "true", "x := 1"), command("a", "true", "y := 1")])]
        self.assertEqual(error(variables, processes), shared("a", "y"))

    def test_only_commands_with_the_same_label_share(self):
        variables = [variable("x")]
        for first, second in [("", ""), ("a", "b"), ("a", ""), ("", "a")]:
            processes = [("p", [command(first, "true", "x := 1")]),
                         ("q", [command(second, "true", "x := 1")])]
            self.assertIsNone(error(variables, processes))

    def test_labels_come_in_the_order_of_their_first_command(self):
        variables = [variable("x"), variable("y")]
        processes = [
            ("p", [command("b", "true"), command("a", "true", "x := 1")]),
            ("q", [command("a", "true", "x := 1"), command("b", "true", "y := 1")]),
            ("r", [command("b", "true", "y := 1")]),
        ]
        self.assertEqual(error(variables, processes), shared("b", "y"))
        processes[0] = ("p", [command("a", "true", "x := 1"), command("b", "true")])
        self.assertEqual(error(variables, processes), shared("a", "x"))

    def test_commands_come_before_labels_and_labels_before_fairness(self):
        variables = [variable("x")]
        both = [("p", [command("a", "true", "x := 1")]), ("q", [command("a", "true", "x := 1")])]
        wrong = ("r", [command("", "b = 1")])
        self.assertEqual(error(variables, both + [wrong]), unknown("b"))
        self.assertEqual(error(variables, both, [read_condition("c = 1")]), shared("a", "x"))

    def test_fairness(self):
        a, b, c = [read_condition(f"{name} = 1") for name in "abc"]
        self.assertEqual(error([], [], [TRUE, b, a], [(c, c)]), unknown("b"))
        self.assertEqual(error([], [], [TRUE], [(TRUE, TRUE), (b, a)]), unknown("b"))
        self.assertEqual(error([], [], [], [(TRUE, b), (a, a)]), unknown("b"))
        self.assertEqual(error([], [], [], [(TRUE, TRUE), (a, TRUE)]), unknown("a"))
        self.assertEqual(error([], [], [read_condition("c > b and a = 1")]), unknown("b"))

    def test_names_of_processes_and_labels_are_no_variables(self):
        processes = [("p", [command("a", "true")])]
        self.assertEqual(error([], processes, [read_condition("p = 1")]), unknown("p"))
        self.assertEqual(error([], processes, [read_condition("a = 1")]), unknown("a"))


class InitialStates(unittest.TestCase):
    def test_all_values_in_ascending_order(self):
        system = made([variable("b", -2, 9, -1, 1), variable("a", 0, 9, 3, 4)])
        self.assertEqual(
            system.initial_states(), [(-1, 3), (-1, 4), (0, 3), (0, 4), (1, 3), (1, 4)],
        )

    def test_one_state(self):
        system = made([variable("x"), variable("y", 5, 5, 5, 5)])
        self.assertEqual(system.initial_states(), [(0, 5)])

    def test_many_states(self):
        system = made([variable("x", 0, 10 ** 17, 0, 316), variable("y", -200, 200, -157, 157)])
        states = system.initial_states()
        self.assertEqual(len(states), 317 * 315)
        self.assertEqual(states, sorted(states))
        self.assertEqual((states[0], states[-1]), ((0, -157), (316, 157)))


class TruthInStates(unittest.TestCase):
    def test_conditions(self):
        system = made([variable("x"), variable("y")])
        self.assertIs(system.truth(read_condition("x < y"), (0, 1)), True)
        self.assertIs(system.truth(read_condition("x < y"), (1, 1)), False)
        self.assertIs(system.truth(TRUE, (1, 1)), True)

    def test_unknown_names(self):
        system = made([variable("x")])
        condition = read_condition("true or b > a")
        self.assertEqual(told(system.truth, condition, (0,)), unknown("a"))


class Moves(unittest.TestCase):
    def test_commands_without_a_label(self):
        system = made([variable("x"), variable("y")], [
            ("p", [command("", "x < 2", "x := x + 1"), command("", "y = 0", "y := 3")]),
            ("q", [command("", "true", "x := 3", "y := 3")]),
        ])
        self.assertEqual(system.successors((0, 0)), [(0, 3), (1, 0), (3, 3)])
        self.assertEqual(system.successors((2, 1)), [(3, 3)])

    def test_terms_are_evaluated_in_the_old_state(self):
        system = made([variable("x"), variable("y")],
                      [("p", [command("", "true", "x := y", "y := x")])])
        self.assertEqual(system.successors((1, 2)), [(2, 1)])

    def test_a_joint_move_is_evaluated_in_the_old_state(self):
        system = made([variable("x"), variable("y")], [
            ("p", [command("a", "true", "x := y")]), ("q", [command("a", "true", "y := x")]),
        ])
        self.assertEqual(system.successors((1, 2)), [(2, 1)])

    def test_successors_are_in_ascending_order_without_duplicates(self):
        system = made([variable("x", -9, 9)], [("p", [
            command("", "true", "x := 2"), command("", "true", "x := -1"),
            command("", "true", "x := 10 - 8"), command("a", "true", "x := 0"),
        ])])
        self.assertEqual(system.successors((0,)), [(-1,), (0,), (2,)])

    def test_a_label_in_several_processes(self):
        system = made([variable("x", 0, 9), variable("y", 0, 9), variable("z", 0, 9)], [
            ("p", [command("a", "true", "x := 1"), command("a", "true", "x := 2")]),
            ("q", [command("a", "true", "y := 1"), command("a", "z = 0", "y := 2"),
                   command("b", "true", "z := 9")]),
            ("r", [command("", "true", "z := 7")]),
        ])
        self.assertEqual(system.successors((0, 0, 0)), [
            (0, 0, 7), (0, 0, 9), (1, 1, 0), (1, 2, 0), (2, 1, 0), (2, 2, 0),
        ])
        self.assertEqual(system.successors((0, 0, 5)), [(0, 0, 7), (0, 0, 9), (1, 1, 5), (2, 1, 5)])

    def test_a_process_that_cannot_take_part_stops_a_label(self):
        system = made([variable("x"), variable("y")], [
            ("p", [command("a", "true", "x := 1")]), ("q", [command("a", "y = 1")]),
        ])
        self.assertEqual(system.successors((0, 0)), [(0, 0)])
        self.assertEqual(system.successors((0, 1)), [(1, 1)])

    def test_a_label_in_one_process(self):
        system = made([variable("x")], [
            ("p", [command("a", "true", "x := 1"), command("a", "x = 0", "x := 2")]), ("q", []),
        ])
        self.assertEqual(system.successors((0,)), [(1,), (2,)])

    def test_moves_out_of_range_do_not_take_place(self):
        system = made([variable("x", 0, 3), variable("y", -1, 1)], [
            ("p", [command("", "true", "x := x + 1"), command("", "true", "x := 1", "y := y - 1")]),
        ])
        self.assertEqual(system.successors((3, 0)), [(1, -1)])
        self.assertEqual(system.successors((2, -1)), [(3, -1)])
        self.assertEqual(system.successors((3, -1)), [(3, -1)])

    def test_a_joint_move_out_of_range_does_not_take_place(self):
        system = made([variable("x", 0, 3), variable("y", 0, 1)], [
            ("p", [command("a", "true", "x := x + 1")]),
            ("q", [command("a", "true", "y := 2"), command("a", "true", "y := 1 - y")]),
        ])
        self.assertEqual(system.successors((0, 0)), [(1, 1)])
        self.assertEqual(system.successors((3, 0)), [(3, 0)])

    def test_a_move_that_changes_nothing_is_a_move(self):
        system = made([variable("x")], [
            ("p", [command("", "true"), command("", "true", "x := 1")]),
        ])
        self.assertEqual(system.successors((0,)), [(0,), (1,)])
        system = made([variable("x")], [("p", [command("", "true", "x := x")])])
        self.assertEqual(system.successors((2,)), [(2,)])

    def test_a_state_without_a_move_follows_itself(self):
        system = made([variable("x")], [("p", [command("", "x = 0", "x := 1")])])
        self.assertEqual(system.successors((1,)), [(1,)])
        self.assertEqual(made([variable("x")]).successors((1,)), [(1,)])

    def test_large_values_between(self):
        large = 10 ** 18 - 1
        system = made([variable("x", -large, large, 5, 5)], [
            ("p", [command("", "true", f"x := {large} * {large} - {large} * {large} + x - 6"),
                   command("", "true", f"x := x * {large}")]),
        ])
        self.assertEqual(system.successors((5,)), [(-1,)])
        self.assertEqual(system.successors((-1,)), [(-large,), (-7,)])

    def test_many_moves(self):
        counts = [[command("a", "true", f"{name} := {k}") for k in range(21)] for name in "xyz"]
        counts.append([command("a", "w > 0")])
        processes = [(f"p{k}", commands) for k, commands in enumerate(counts)]
        system = made([variable(name, 0, 30) for name in "xyzw"], processes)
        found = system.successors((0, 0, 0, 1))
        self.assertEqual(len(found), 21 ** 3)
        self.assertEqual(found, sorted(found))
        self.assertEqual(system.successors((0, 0, 0, 0)), [(0, 0, 0, 0)])

    def test_against_all_choices(self):
        random = Random(5)
        for _ in range(200):
            system = random_system(random)
            for _ in range(6):
                state = tuple(random.randint(-1, 2) for _ in system.names)
                self.assertEqual(system.successors(state), naive_successors(system, state))


def random_system(random):
    """A system of variables x, y, z, in which each process assigns its own variable."""
    processes = []
    for name in "xyz":
        commands = []
        for _ in range(random.randrange(5)):
            label = random.choice(["", "a", "b"])
            guard = random.choice(["true", "x < y", "y = 0 or z > x", "x + y <> z", "false"])
            term = random.choice(["x + 1", "y - z", "-x", "2", "z", "x * y - z"])
            assigned = [] if random.random() < 0.2 else [f"{name} := {term}"]
            commands.append(command(label, guard, *assigned))
        processes.append((f"p{name}", commands))
    return made([variable(name, -1, 2) for name in "xyz"], processes)


def naive_successors(system, state):
    """The successors by the words of point 5.4: all choices, one after another."""
    values = dict(zip(system.names, state))
    commands = [one for _, inner in system.processes for one in inner]
    choices = [[one] for one in commands if one[0] == ""]
    for label in {one[0] for one in commands if one[0] != ""}:
        lists = [[one for one in inner if one[0] == label] for _, inner in system.processes]
        choices += list(product(*[inner for inner in lists if inner]))
    found = set()
    for choice in choices:
        if not all(truth(guard, values) for _, guard, _ in choice):
            continue
        after = dict(values)
        for _, _, assignments in choice:
            for name, term in assignments:
                after[name] = value(term, values)
        if all(low <= after[name] <= high for name, low, high, _, _ in system.variables):
            found.add(tuple(after[name] for name in system.names))
    return sorted(found) or [state]

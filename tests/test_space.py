import unittest
from random import Random

from lassoproof.errors import TooManyStates
from lassoproof.systems.model import System
from lassoproof.systems.reader import read_system
from lassoproof.systems.space import Space, explore
from tests.faults import told

COUNTER = "var x in 0..9 start 0\nprocess p\nwhen x < 9 do x := x + 1"


def fields(space):
    return (space.states, space.starts, space.after)


def explored(text, **more):
    return fields(explore(read_system(text), **more))


def limited(system, limit):
    return told(lambda: explore(system, limit=limit))


def too_many(limit):
    return ("TooManyStates", {"limit": limit})


def random_system(random):
    """A text with two or three variables, some of them negative, and commands with labels."""
    names = ["x", "y", "z"][:random.randrange(2, 4)]
    lines = [f"var {name} in -1..2 start {random.choice(['-1', '0..1', '0'])}" for name in names]
    for process in names:
        lines.append(f"process {process}")
        for _ in range(random.randrange(3)):
            label = random.choice(["", "a: ", "b: "])
            other, name = random.choice(names), process
            lines.append(f"{label}when {other} < {random.randrange(3)} do "
                         f"{name} := {random.choice(names)} + {random.randrange(-1, 2)}")
    return read_system("\n".join(lines).replace("+ -", "- "))


def states_on_runs(system):
    """All states that can be reached, found by adding successors until none is new."""
    found = set(system.initial_states())
    while True:
        more = {ahead for state in found for ahead in system.successors(state)} - found
        if not more:
            return sorted(found)
        found |= more


class Explored(unittest.TestCase):
    def test_a_counter(self):
        self.assertEqual(explored("var x in 0..2 start 0\nprocess p\nwhen x < 2 do x := x + 1"),
                         ([(0,), (1,), (2,)], [0], [[1], [2], [2]]))

    def test_states_that_cannot_be_reached_are_left_out(self):
        self.assertEqual(explored("var x in -5..5 start 3..4\nprocess p\nwhen x > 1 do x := x - 3"),
                         ([(0,), (1,), (3,), (4,)], [2, 3], [[0], [1], [0], [1]]))

    def test_nothing_at_all(self):
        self.assertEqual(explored(""), ([()], [0], [[0]]))
        self.assertEqual(explored("process p\nwhen true do skip"), ([()], [0], [[0]]))

    def test_no_processes_and_no_commands(self):
        stay = ([(-1, 0), (-1, 1), (0, 0), (0, 1)], [0, 1, 2, 3], [[0], [1], [2], [3]])
        variables = "var x in -2..3 start -1..0\nvar y in 0..9 start 0..1"
        self.assertEqual(explored(variables), stay)
        self.assertEqual(explored(variables + "\nprocess p\nprocess q"), stay)
        self.assertEqual(explored(variables + "\nprocess p\nwhen x > 5 do x := 1"), stay)

    def test_states_and_successors_ascend(self):
        text = "var x in 0..9 start 5\nprocess p\nwhen x = 5 do x := 9\nwhen x = 5 do x := 0"
        self.assertEqual(explored(text), ([(0,), (5,), (9,)], [1], [[0], [0, 2], [2]]))

    def test_starts_are_numbers_of_the_states(self):
        text = "var x in 0..5 start 2..4\nprocess p\nwhen x = 4 do x := 0\nwhen true do skip"
        self.assertEqual(explored(text), ([(0,), (2,), (3,), (4,)], [1, 2, 3],
                                          [[0], [1], [2], [0, 3]]))

    def test_fairness_does_not_matter(self):
        self.assertEqual(explored(COUNTER + "\njustice x = 3\ncompassion true : false"),
                         explored(COUNTER))

    def test_random_systems(self):
        random = Random(71)
        for _ in range(150):
            system = random_system(random)
            space = explore(system)
            self.assertEqual(space.states, states_on_runs(system))
            self.assertEqual([space.states[start] for start in space.starts],
                             system.initial_states())
            self.assertEqual([[space.states[ahead] for ahead in following]
                              for following in space.after],
                             [system.successors(state) for state in space.states])


class Limits(unittest.TestCase):
    def test_just_met_and_just_passed(self):
        system = read_system(COUNTER)
        self.assertEqual(len(explore(system, limit=10).states), 10)
        for limit in (9, 8, 1, 0):
            self.assertEqual(limited(system, limit), too_many(limit))
        self.assertIsNone(limited(system, 10))
        self.assertIsNone(limited(system, 11))

    def test_initial_states_count(self):
        system = read_system("var x in 0..9 start 0..9")
        self.assertEqual(limited(system, 9), too_many(9))
        self.assertIsNone(limited(system, 10))
        self.assertEqual(limited(read_system(""), 0), too_many(0))
        self.assertIsNone(limited(read_system(""), 1))

    def test_the_limit_is_2000_if_none_is_given(self):
        def counter(most):
            return read_system(COUNTER.replace("9", str(most)))

        self.assertEqual(len(explore(counter(1999)).states), 2000)
        self.assertEqual(told(explore, counter(2000)), too_many(2000))
        self.assertEqual(told(explore, read_system("var x in 0..9999 start 0..9999")),
                         too_many(2000))

    def test_many_states_from_one(self):
        system = read_system("var x in 0..1 start 0\nprocess p\n" + "\n".join(
            f"when x = 0 do x := {k}" for k in (0, 1)))
        self.assertEqual(limited(system, 1), too_many(1))
        self.assertIsNone(limited(system, 2))

    def test_an_endless_number_of_states_is_not_explored(self):
        system = read_system("var x in 0..999999999999999999 start 0\nprocess p\n"
                             "when true do x := x + 1\nwhen true do x := x * 3 + 5")
        self.assertEqual(limited(system, 50), too_many(50))

    def test_a_hundred_thousand_initial_states(self):
        system = read_system("var x in 0..199999 start 0..99999")
        self.assertEqual(len(explore(system, limit=100000).states), 100000)
        self.assertEqual(limited(system, 99999), too_many(99999))

    def test_the_limit_is_passed_by_keyword(self):
        with self.assertRaises(TypeError):
            explore(read_system(""), 5)
        with self.assertRaises(TooManyStates):
            explore(read_system(""), limit=0)


class Lists(unittest.TestCase):
    def test_fields(self):
        space = Space([(0,), (1,)], [0], [[1], [0, 1]])
        self.assertEqual(fields(space), ([(0,), (1,)], [0], [[1], [0, 1]]))
        space = Space(states=[], starts=[], after=[])
        self.assertEqual(fields(space), ([], [], []))

    def test_lists_that_are_changed_later_have_no_effect(self):
        states, starts, after = [(0,), (1,)], [0], [[1], [0, 1]]
        space = Space(states, starts, after)
        states[0] = (5,)
        starts.append(1)
        after[0].append(7)
        after[1] = []
        after.append([0])
        self.assertEqual(fields(space), ([(0,), (1,)], [0], [[1], [0, 1]]))

    def test_the_system_is_not_changed_and_spaces_are_new(self):
        system = System([("x", 0, 1, 0, 0)], [("p", [("", ("true",), [])])], [], [])
        space = explore(system)
        space.states.clear()
        space.after[0].append(9)
        self.assertEqual(fields(explore(system)), ([(0,)], [0], [[0]]))
        self.assertEqual(system.processes, [("p", [("", ("true",), [])])])

import unittest
from random import Random

from lassoproof.language.reader import read_condition, read_term
from lassoproof.systems.model import System
from lassoproof.systems.reader import read_system
from lassoproof.systems.writer import write_system
from tests.trees import random_comparison, random_formula, random_term

TRUE = ("true",)

TEXT = """var x in -3..4 start -1..2
var y in 0..1 start 1
var z in -7..-5 start -6
process p
a: when x < 2 and y = 1 do x := x + 1, y := min(x, 0)
when true do skip
process q
process r
a: when not y = x do z := -(z - 1) * 2
b: when true do skip
justice 0 < x
justice not (y = 0 or x = 1)
compassion x = 0 : y = 1
compassion true : x = 1 -> y = 0"""


def fields(system):
    return [system.variables, system.names, system.processes, system.justice, system.compassion]


class Writing(unittest.TestCase):
    def test_a_whole_system(self):
        self.assertEqual(write_system(read_system(TEXT)), TEXT)

    def test_nothing_at_all(self):
        self.assertEqual(write_system(System([], [], [], [])), "")

    def test_each_part_alone(self):
        for system, text in [
            (System([("x", 0, 3, 1, 2)], [], [], []), "var x in 0..3 start 1..2"),
            (System([("x", 0, 3, 2, 2)], [], [], []), "var x in 0..3 start 2"),
            (System([("x", -3, -1, -2, -2)], [], [], []), "var x in -3..-1 start -2"),
            (System([("x", -3, 0, -2, -1)], [], [], []), "var x in -3..0 start -2..-1"),
            (System([], [("p", [])], [], []), "process p"),
            (System([], [("p", [("", TRUE, [])])], [], []), "process p\nwhen true do skip"),
            (System([], [("p", [("a", TRUE, [])])], [], []), "process p\na: when true do skip"),
            (System([], [], [TRUE], []), "justice true"),
            (System([], [], [], [(TRUE, ("false",))]), "compassion true : false"),
        ]:
            self.assertEqual(write_system(system), text)

    def test_the_order_of_the_lines(self):
        text = "\n\ncompassion true : false\n\njustice true\ncompassion false : true\njustice false\n"
        self.assertEqual(
            write_system(read_system(text)),
            "justice true\njustice false\ncompassion true : false\ncompassion false : true",
        )

    def test_spaces(self):
        text = (
            "var x in - 1 .. 2 start 0 .. 1\nvar y in 0..1 start 0..0\n\nprocess  p\n"
            "a :when x>1 do x:=x-1 ,y:=0\njustice(x<>1)\ncompassion x=1:true\n\n"
        )
        self.assertEqual(write_system(read_system(text)), (
            "var x in -1..2 start 0..1\nvar y in 0..1 start 0\nprocess p\n"
            "a: when 1 < x do x := x - 1, y := 0\njustice not x = 1\ncompassion x = 1 : true"
        ))

    def test_the_system_stays_as_it_is(self):
        system = read_system(TEXT)
        before = [list(field) for field in fields(system)]
        write_system(system)
        self.assertEqual(fields(system), before)


class ReadAgain(unittest.TestCase):
    def test_the_fields_of_texts(self):
        system = read_system(TEXT)
        self.assertEqual(fields(read_system(write_system(system))), fields(system))

    def test_large_numbers(self):
        large = 10 ** 18 - 1
        system = System([("x", -large, large, -large, large)], [], [], [])
        self.assertEqual(write_system(system), f"var x in -{large}..{large} start -{large}..{large}")
        self.assertEqual(fields(read_system(write_system(system))), fields(system))

    def test_commands_that_read_like_other_lines(self):
        commands = [("p", read_condition("p = q"), [("q", read_term("p"))]), ("", TRUE, [])]
        system = System([("p", 0, 1, 0, 0), ("q", 0, 1, 0, 1)], [("p", commands)], [], [])
        self.assertEqual(fields(read_system(write_system(system))), fields(system))

    def test_random_systems(self):
        random = Random(13)
        for _ in range(200):
            system = random_system(random)
            self.assertEqual(fields(read_system(write_system(system))), fields(system))


def random_system(random):
    """A random system, in which each process assigns a variable of its own."""
    names = random.sample(["x", "y2", "zZ", "wait_"], random.randrange(5))
    variables = []
    for name in names:
        low, first, last, high = sorted(random.randint(-9, 9) for _ in range(4))
        variables.append((name, low, high, first, last))

    def condition():
        return random_formula(
            random, 4, lambda: random_comparison(random, 3, names), temporal=False,
        )

    processes = []
    for k in range(random.randrange(4)):
        commands = []
        for _ in range(random.randrange(4)):
            own = names[k:k + 1]
            assigned = [(name, random_term(random, 4, names)) for name in own[:random.randrange(2)]]
            commands.append((random.choice(["", "a", "go"]), condition(), assigned))
        processes.append((f"p{k}", commands))
    justice = [condition() for _ in range(random.randrange(3))]
    compassion = [(condition(), condition()) for _ in range(random.randrange(3))]
    return System(variables, processes, justice, compassion)

"""All that is asked of the check is asked of the check by classes, too."""

from random import Random

from lassoproof.checking.search import check
from lassoproof.classes.lifting import check_by_classes
from lassoproof.language.reader import read_formula
from lassoproof.systems.reader import read_system
from tests import test_check
from tests.systems import random_atom, random_system
from tests.trees import random_formula

# A clock whose minutes do not matter to the formulas below.
CLOCK = """var h in 0..2 start 0
var m in 0..59 start 0..59
process p
when m < 59 do m := m + 1
when m = 59 do m := 0, h := (h + 1) mod 3
when true do m := 0"""


class Answers(test_check.Answers):
    way = staticmethod(check_by_classes)


class RandomChecks(test_check.RandomChecks):
    way = staticmethod(check_by_classes)


class Errors(test_check.Errors):
    way = staticmethod(check_by_classes)


class Bounds(test_check.Bounds):
    way = staticmethod(check_by_classes)


class Arguments(test_check.Arguments):
    way = staticmethod(check_by_classes)


class BesideTheCheck(test_check.Checks):
    way = staticmethod(check_by_classes)

    def test_the_same_verdicts(self):
        random = Random(98)
        for _ in range(200):
            system = random_system(random)
            formula = random_formula(random, 3, lambda: random_atom(random, system.names))
            self.assertIs(check_by_classes(system, formula).holds, check(system, formula).holds)

    def test_classes_of_many_states(self):
        # All states with the same truth of the only comparison are alike here.
        text = "var x in 0..99 start 0..99\nprocess p\n" + "\n".join(
            f"when true do x := {k}" for k in range(100))
        self.answers(text, {"G x < 50": False, "x < 50 or x >= 50": True, "F x < 50": False})
        self.answers(text + "\njustice x < 50", {"F x < 50": True, "G F x < 50": True})

    def test_fairness_tells_states_apart(self):
        text = "var x in 0..3 start 0\nprocess p\nwhen true do x := (x + 1) mod 4\nwhen true do skip"
        self.answers(text, {"F x = 3": False})
        for fairness in ("justice x = 2\njustice x = 1", "justice x = 3",
                         "compassion x < 3 : x = 3", "justice x = 1\ncompassion x = 1 : x = 0"):
            self.answers(text + "\n" + fairness, {"F x = 3": True, "G F x = 3": True})
        for fairness in ("justice x = 1", "compassion x = 1 : x = 2", "compassion x = 3 : x = 0"):
            self.answers(text + "\n" + fairness, {"F x = 3": False})

    def test_a_clock(self):
        system = read_system(CLOCK)
        for text, held in [("G (h = 0 -> (h = 0 W h = 1))", True), ("F h = 1", False),
                           ("G F h = 0", False)]:
            self.assertIs(check_by_classes(system, read_formula(text)).holds, held)
            self.assertIs(check(system, read_formula(text)).holds, held)
        system = read_system(CLOCK + "\ncompassion m = 58 : m = 59\njustice m >= 30\njustice m = 58")
        self.assertIs(check_by_classes(system, read_formula("G F h = 1")).holds, False)

import unittest
from copy import deepcopy
from random import Random

from lassoproof.checking.checker import accepts, refutes
from lassoproof.checking.search import check
from lassoproof.checking.verdicts import Certificate, Verdict
from lassoproof.formulas.rows import number_rows
from lassoproof.language.reader import read_formula
from lassoproof.systems.model import System
from lassoproof.systems.reader import read_system
from tests.fairness import levels
from tests.faults import told, unknown
from tests.judging import is_refuted, is_right
from tests.systems import COUNTER, FAIR_LOCK, LOCK, STAY, many_rows, random_atom, random_system
from tests.trees import random_formula

# The conditions of a traffic light that may stay as it is.
LIGHT = """var c in 0..2 start 0
process p
when true do c := (c + 1) mod 3
when c <> 1 do skip"""


class Checks(unittest.TestCase):
    """What each way to check has to do; tests of other ways are classes below these ones."""

    way = staticmethod(check)

    def ask(self, system, formula, **more):
        """Whether a formula holds, after a look whether the answer is right."""
        verdict = self.way(system, formula, **more)
        self.assertIsInstance(verdict, Verdict)
        self.look(system, formula, verdict)
        return verdict.holds

    def look(self, system, formula, verdict):
        if verdict.holds is True:
            self.assertIsInstance(verdict.certificate, Certificate)
            self.assertEqual((verdict.stem, verdict.loop), (None, None))
            self.assertIs(accepts(system, formula, verdict.certificate), True)
            self.assertTrue(is_right(system, formula, verdict.certificate))
            self.assertLessEqual(levels(verdict.certificate.blocks), len(system.compassion) + 1)
        else:
            self.assertIs(verdict.holds, False)
            self.assertIsNone(verdict.certificate)
            self.assertIs(refutes(system, formula, verdict.stem, verdict.loop), True)
            self.assertTrue(is_refuted(system, formula, verdict.stem, verdict.loop))

    def answers(self, text, formulas):
        """Looks whether the formulas of a dict hold as it tells."""
        system = read_system(text)
        for formula, wanted in formulas.items():
            self.assertIs(self.ask(system, read_formula(formula)), wanted, formula)


class Answers(Checks):
    def test_the_example(self):
        system = read_system("var x in 0..2 start 0\nprocess p\nwhen x < 2 do x := x + 1")
        found = [self.way(system, read_formula("F x = 2")).holds,
                 self.way(system, read_formula("G x < 2")).holds]
        self.assertEqual(found, [True, False])

    def test_a_counter(self):
        self.answers(COUNTER, {
            "F x = 2": True, "G x < 2": False, "x = 0": True, "x = 1": False, "X x = 1": True,
            "X X x = 1": False, "F G x = 2": True, "G F x = 1": False, "x < 2 U x = 2": True,
            "x = 0 U x = 2": False, "x < 2 W x = 2": True, "x = 0 W x = 2": False,
            "x = 0 R x < 2": True, "x = 1 R x < 2": True, "x = 1 M x < 2": True,
            "x = 5 M true": False, "x = 5 R true": True, "G (x = 1 -> X x = 2)": True,
            "true": True, "false": False, "F x = 1 and F x = 2 and G x <= 2": True,
        })

    def test_a_counter_that_may_wait(self):
        text = COUNTER + STAY
        self.answers(text, {"F x = 2": False, "F x = 2 or F G x < 2": True, "G x <= 2": True})
        self.answers(text + "\njustice x = 2", {"F x = 2": True, "X x = 1": False})
        self.answers(text + "\njustice x <> 0", {"F x = 2": False, "F x >= 1": True})
        self.answers(text + "\njustice x <> 0\njustice x <> 1", {"F x = 2": True})
        self.answers(text + "\ncompassion x = 0 : x = 1", {"F x = 1": True, "F x = 2": False})
        self.answers(text + "\ncompassion x = 0 : x = 1\ncompassion x = 1 : x = 0",
                     {"F x = 2": True, "G F x = 2": True, "F x = 2 and X x = 1": False})
        self.answers(text + "\njustice x < 2\ncompassion x = 0 : false\ncompassion x = 1 : x = 0",
                     {"false": True, "F x = 2": True, "G x = 0": True})

    def test_a_light(self):
        self.answers(LIGHT, {
            "G F c = 1": False, "G (c = 1 -> X c = 2)": True, "G (c = 0 -> F c = 1)": False,
            "G (c = 0 -> (c = 0 W c = 1))": True, "G (c = 0 -> (c = 0 U c = 1))": False,
            "F G c = 1": False, "c = 1 R c <> 2": True, "c = 1 M c <> 2": False,
        })
        self.answers(LIGHT + "\njustice c = 1", {
            "G F c = 1": True, "G F c = 2": True, "G (c = 0 -> (c = 0 U c = 1))": True,
            "c = 1 M c <> 2": True, "F G c <> 1": False, "X X X c = 0": False,
        })

    def test_a_lock(self):
        self.answers(LOCK, {
            "G not (a = 2 and b = 2)": True, "G (a = 1 -> F a = 2)": False,
            "G (a = 2 -> lock = 1)": True,
        })
        self.answers(FAIR_LOCK, {
            "G not (a = 2 and b = 2)": True, "G (a = 1 -> F a = 2)": True, "G F a = 2": False,
            "G (a = 1 -> F a = 2) and G (b = 1 -> F b = 2)": True,
        })
        self.answers(LOCK + "\njustice a = 1 or a = 2\njustice a <> 2", {
            "G (a = 1 -> F a = 2)": False, "F a = 1": True,
        })

    def test_nothing_at_all(self):
        self.answers("", {"true": True, "false": False, "1 = 1": True, "G 1 < 1": False,
                          "X X true": True, "F false": False})
        self.answers("justice false", {"false": True, "G 1 < 1": True})
        self.answers("compassion true : false", {"false": True, "X true": True})
        self.answers("process p\nprocess q", {"G true": True, "F false": False})

    def test_no_variables(self):
        self.answers("process p\nwhen true do skip\njustice 1 = 1", {"true U true": True,
                                                                    "false W false": False})

    def test_no_processes(self):
        self.answers("var x in 0..3 start 1..2", {
            "x = 1 or x = 2": True, "x = 1": False, "G x = 1 or G x = 2": True, "F x = 3": False,
            "G (x = 1 -> X x = 1)": True,
        })

    def test_several_initial_states(self):
        self.answers(COUNTER.replace("start 0", "start 0..1"), {
            "x = 0": False, "x < 2": True, "X x >= 1": True, "F x = 1": True, "X x = 1": False,
        })

    def test_no_fair_run(self):
        for fairness in ("justice x < 2", "justice x = 5", "compassion x = 2 : x = 1",
                         "compassion true : false", "justice x = 2\njustice x < 2"):
            self.answers(COUNTER + "\n" + fairness, {"false": True, "F x = 1": True, "true": True,
                                                     "G x = 0": True, "X X X x = 0": True})

    def test_formulas_without_comparisons(self):
        self.answers(COUNTER, {
            "true": True, "false": False, "X true": True, "G F false": False, "true U false": False,
            "false R true": True, "true W false": True, "false M true": False,
            "not (true <-> X false)": True, "false -> F false": True,
        })

    def test_large_values(self):
        large = 10 ** 18 - 1
        self.answers(f"var x in -{large}..{large} start {large}\nprocess p\n"
                     f"when true do x := -x", {
                         f"G F x = {large}": True, f"F x + {large} = 0": True,
                         f"G x * x = {large} * {large}": True, "X x > 0": False,
                     })


class RandomChecks(Checks):
    def test_random_systems(self):
        random = Random(93)
        found = {True: 0, False: 0}
        for _ in range(500):
            system = random_system(random)
            formula = random_formula(random, 4, lambda: random_atom(random, system.names))
            if len(number_rows(formula).temporal) <= 3:
                found[self.ask(system, formula)] += 1
        self.assertGreater(min(found.values()), 80)

    def test_each_word_with_each_number_of_conditions(self):
        random = Random(94)
        for word in ("next", "eventually", "always", "until", "release", "unless", "strong"):
            found = set()
            for _ in range(40):
                system = random_system(random)
                first, second = [random_atom(random, system.names) for _ in range(2)]
                formula = (word, first) if word in ("next", "eventually", "always") else (
                    word, first, second)
                for asked in (formula, ("not", formula)):
                    held = self.ask(system, asked)
                    found.add((held, min(1, len(system.justice)), min(1, len(system.compassion))))
            self.assertEqual(len(found), 8, word)


class Errors(Checks):
    def errors(self, text, formula, limit=2000):
        """The error of a check."""
        system = read_system(text)
        return told(lambda: self.way(system, formula, limit=limit))

    def test_unknown_names(self):
        for text, name in [("y = 1", "y"), ("F b > a", "a"), ("true or G z = x", "z"),
                           ("x = 0 and (F x = p -> q = 1)", "p")]:
            self.assertEqual(self.errors(COUNTER, read_formula(text)), unknown(name))
        self.assertEqual(self.errors("", read_formula("x = 1")), unknown("x"))

    def test_temporal_rows(self):
        self.assertIsNone(self.errors(COUNTER, many_rows(12)))
        for count in (13, 14, 20):
            self.assertEqual(self.errors(COUNTER, many_rows(count)),
                             ("TooManyPromises", {"count": count}))

    def test_equal_rows_count_once(self):
        twelve = many_rows(12)
        self.assertIsNone(self.errors(COUNTER, ("and", twelve, ("not", twelve))))
        nested = read_formula("X " * 12 + "x = 1")
        self.assertIsNone(self.errors(COUNTER, nested))
        self.assertEqual(self.errors(COUNTER, ("next", nested)), ("TooManyPromises", {"count": 13}))

    def test_limits(self):
        formula = read_formula("F x = 2")
        self.assertIsNone(self.errors(COUNTER, formula, 3))
        for limit in (2, 1, 0):
            self.assertEqual(self.errors(COUNTER, formula, limit),
                             ("TooManyStates", {"limit": limit}))
        long = read_system(COUNTER.replace("2", "2000"))
        self.assertEqual(told(self.way, long, formula), ("TooManyStates", {"limit": 2000}))
        self.assertIs(self.way(long, formula, limit=2001).holds, True)

    def test_the_order_of_errors(self):
        many = many_rows(13)
        strange = ("and", many, read_formula("y = 1"))
        self.assertEqual(self.errors(COUNTER, strange, 1), unknown("y"))
        self.assertEqual(self.errors(COUNTER, many_rows(13, "z"), 1), unknown("z"))
        self.assertEqual(self.errors(COUNTER, many, 1), ("TooManyPromises", {"count": 13}))
        self.assertEqual(self.errors(COUNTER, many_rows(12), 1), ("TooManyStates", {"limit": 1}))

    def test_the_limit_is_passed_by_keyword(self):
        with self.assertRaises(TypeError):
            self.way(read_system(COUNTER), ("true",), 5)


class Bounds(Checks):
    def agree(self, system, answers):
        """Looks whether formulas hold as told; they are too many for a look at each place."""
        for text, held in answers.items():
            formula = read_formula(text)
            verdict = self.way(system, formula)
            self.assertIs(verdict.holds, held)
            if held:
                self.assertTrue(accepts(system, formula, verdict.certificate))
            else:
                self.assertTrue(refutes(system, formula, verdict.stem, verdict.loop))

    def test_twelve_temporal_rows(self):
        self.agree(read_system(COUNTER.replace("2", "11") + "\nwhen x = 11 do x := 0"), {
            " and ".join(f"F x = {k}" for k in range(1, 12)) + " and G x < 12": True,
            " and ".join(f"F x = {k}" for k in range(1, 13)): False,
            "X " * 11 + "(x = 11 and X x = 0)": True, "X " * 12 + "x = 11": False,
            "G F " * 6 + "x = 3": True, "F G " * 6 + "x = 3": False,
        })

    def test_two_thousand_states(self):
        system = read_system(COUNTER.replace("2", "1999") + "\nwhen x = 1999 do x := 0")
        self.agree(system, {"G F x = 7": True, "G (x = 3 -> X (x <> 3 U x = 9))": True,
                            "F G x > 5": False, "x < 1999 U x = 2000": False})

    def test_forty_pairs_of_compassion(self):
        lines = ["var x in 0..40 start 0", "process p"]
        lines += [f"when x <> {k} do x := {k}" for k in range(41)]
        lines += [f"compassion x = {k} : false" for k in range(40)]
        system = read_system("\n".join(lines))
        for text, held in [("F G x = 40", True), ("G x <> 40", True), ("x = 1", True)]:
            formula = read_formula(text)
            verdict = self.way(system, formula)
            self.assertIs(verdict.holds, held)
            self.assertLessEqual(levels(verdict.certificate.blocks), 41)
            self.assertTrue(accepts(system, formula, verdict.certificate))


class Arguments(Checks):
    def test_arguments_are_not_changed_and_lists_are_new(self):
        def fields(system):
            return deepcopy((system.variables, system.processes, system.justice,
                             system.compassion, system.names))

        for text, formula in [(FAIR_LOCK, "G (a = 1 -> F a = 2)"), (LOCK, "G F a = 2")]:
            system, formula = read_system(text), read_formula(formula)
            before = fields(system), deepcopy(formula)
            verdict = self.way(system, formula)
            copy = deepcopy(verdict)
            if verdict.holds:
                verdict.certificate.places.clear()
                verdict.certificate.blocks[0][2].clear()
            else:
                verdict.loop.clear()
            again = self.way(system, formula)
            self.assertEqual((fields(system), formula), before)
            self.assertEqual((again.stem, again.loop), (copy.stem, copy.loop))
            if copy.holds:
                self.assertEqual(again.certificate.places, copy.certificate.places)
                self.assertEqual(again.certificate.blocks, copy.certificate.blocks)

    def test_a_system_made_by_hand(self):
        system = System([("x", 0, 1, 0, 0)], [("p", [("", ("true",), [])])], [], [])
        self.assertTrue(self.way(system, read_formula("G x = 0")).holds)

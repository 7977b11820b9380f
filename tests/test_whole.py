"""What the overview promises over the whole program, from texts to audited answers."""

import unittest
from random import Random

from lassoproof.checking.checker import accepts, refutes
from lassoproof.checking.search import check
from lassoproof.classes.lifting import check_by_classes
from lassoproof.formulas.positive import negated, positive
from lassoproof.formulas.rows import number_rows
from lassoproof.formulas.shrink import shrink
from lassoproof.lassos.meaning import true_on
from lassoproof.lassos.progress import moved_on
from lassoproof.lassos.words import shortest, suffix, unrolled
from lassoproof.language.reader import read_formula
from lassoproof.language.writer import write_formula
from lassoproof.papers.audit import audit, write_answer
from lassoproof.papers.certificates import read_certificate
from lassoproof.papers.lassos import read_lasso
from lassoproof.systems.model import System
from lassoproof.systems.reader import read_system
from lassoproof.systems.writer import write_system
from tests.systems import random_atom, random_system
from tests.trees import random_formula

PETERSON = """
var a in 0..2 start 0
var b in 0..2 start 0
var turn in 0..1 start 0..1

process p
when a = 0 do a := 1, turn := 1
when a = 1 and (b = 0 or turn = 0) do a := 2
when a = 2 do a := 0
when a = 0 do skip
process q
when b = 0 do b := 1, turn := 0
when b = 1 and (a = 0 or turn = 1) do b := 2
when b = 2 do b := 0
when b = 0 do skip
justice a <> 2
justice b <> 2
justice not (a = 1 and (b = 0 or turn = 0))
justice not (b = 1 and (a = 0 or turn = 1))
"""
JOINT = """
var x in 0..3 start 0
var y in -1..1 start 0
process left
send: when x < 3 do x := x + 1
send: when x = 3 do x := 0
process right
send: when y < 1 do y := y + 1
send: when y = 1 do y := -1
when true do skip
compassion true : x = 3
"""
# The same system as JOINT with other processes that move as these do.
JOINT_AGAIN = """
var x in 0..3 start 0
var y in -1..1 start 0..0


process both
when true do x := (x + 1) mod 4, y := (y + 2) mod 3 - 1
process none

process idle
other: when 1 < 2 do skip
compassion not false : x + 1 = 4
"""


def few_rows(formula):
    return len(number_rows(formula).temporal) <= 4


def random_questions(seed, count):
    """Random systems with random formulas that have few temporal rows."""
    random = Random(seed)
    found = []
    while len(found) < count:
        system = random_system(random)
        formula = random_formula(random, 3, lambda: random_atom(random, system.names))
        if few_rows(formula) and few_rows(positive(formula)):
            found.append((system, formula))
    return found


class FromTexts(unittest.TestCase):
    def audited(self, text, formula):
        """Whether a formula holds, by the audit of the written answers of both checks."""
        system, tree = read_system(text), read_formula(formula)
        found = set()
        for function in (check, check_by_classes):
            paper = write_answer(function(system, tree))
            again = read_system(write_system(system))
            found.add(audit(again, read_formula(write_formula(tree)), paper))
        self.assertEqual(len(found), 1)
        return found.pop()

    def test_peterson(self):
        for formula, wanted in [
            ("G not (a = 2 and b = 2)", "holds"), ("G (a = 1 -> F a = 2)", "holds"),
            ("G (b = 1 -> F b = 2)", "holds"), ("G F a = 2", "fails"), ("F a = 1", "fails"),
            ("G (a = 1 -> (b <> 2 W a = 2))", "fails"), ("F G a = 0 or G F a = 2", "holds"),
            ("G (a = 1 and X a <> 1 -> X a = 2)", "holds"), ("turn = 0", "fails"),
        ]:
            self.assertEqual(self.audited(PETERSON, formula), wanted, formula)
        for line, wanted in [("justice a <> 2\n", "holds"),
                             ("justice not (a = 1 and (b = 0 or turn = 0))\n", "fails")]:
            self.assertIn(line, PETERSON)
            self.assertEqual(self.audited(PETERSON.replace(line, ""),
                                          "G (a = 1 -> F a = 2) and G (b = 1 -> F b = 2)"), wanted)

    def test_two_forms_of_a_system(self):
        for formula, wanted in [
            ("G F x = 3", "holds"), ("G F y = 1", "fails"), ("G (x = 0 -> (x = 0 W x = 1))", "holds"),
            ("F G x = 3", "fails"), ("X x = 1", "fails"), ("G (x = 3 -> y = 0)", "fails"),
            ("G (x = y M x <= 3)", "fails"), ("x = 1 R y <= 1", "holds"), ("x < 3 U x = 3", "holds"),
        ]:
            self.assertEqual(self.audited(JOINT, formula), wanted, formula)
            self.assertEqual(self.audited(JOINT_AGAIN, formula), wanted, formula)
        one, other = read_system(JOINT), read_system(JOINT_AGAIN)
        for formula in ("G F x = 3", "G (x = 3 -> y = 0)"):
            tree = read_formula(formula)
            wanted = "holds" if check(one, tree).holds else "fails"
            for maker, judge in ((one, other), (other, one)):
                self.assertEqual(audit(judge, tree, write_answer(check(maker, tree))), wanted)

    def test_a_text_and_fields_made_by_hand(self):
        system = read_system(JOINT)
        same = System(system.variables, system.processes, system.justice, system.compassion)
        for formula in ("G F x = 3", "F G x = 3"):
            tree = read_formula(formula)
            self.assertEqual(write_answer(check(system, tree)), write_answer(check(same, tree)))


class Guarantees(unittest.TestCase):
    def test_a_formula_and_its_negation(self):
        nothing_fair = both_fail = 0
        for system, formula in random_questions(141, 150):
            verdict, turned = check(system, formula), check(system, ("not", formula))
            if verdict.holds and turned.holds:
                nothing_fair += 1
                self.assertTrue(check(system, ("false",)).holds)
            if not verdict.holds:
                lasso = (verdict.stem, verdict.loop)
                self.assertFalse(refutes(system, ("not", formula), *lasso))
                both_fail += not turned.holds
            self.assertEqual(check(system, negated(formula)).holds, turned.holds)
        self.assertGreater(min(nothing_fair, both_fail), 5)

    def test_positive_forms_and_shrunk_formulas(self):
        for system, formula in random_questions(142, 150):
            verdict = check(system, formula)
            for other in (positive(formula), shrink(formula), shrink(positive(formula)),
                          ("not", negated(formula)), ("and", formula, formula)):
                again = check(system, other)
                self.assertIs(again.holds, verdict.holds)
                if not verdict.holds:
                    self.assertTrue(refutes(system, other, verdict.stem, verdict.loop))
                    self.assertTrue(refutes(system, formula, again.stem, again.loop))

    def test_other_forms_of_a_lasso(self):
        for system, formula in random_questions(143, 100):
            verdict = check(system, formula)
            if not verdict.holds:
                stem, loop = verdict.stem, verdict.loop
                for lasso in (unrolled(stem, loop, 3), shortest(stem, loop), (stem, loop + loop)):
                    self.assertTrue(refutes(system, formula, *lasso))
                first = (stem + loop)[0]
                rest = moved_on(formula, system.names, first)
                self.assertFalse(true_on(rest, system.names, *suffix(stem, loop, 1)))

    def test_answers_that_are_written_and_read(self):
        for system, formula in random_questions(144, 150):
            for function in (check, check_by_classes):
                verdict = function(system, formula)
                paper = write_answer(verdict)
                if verdict.holds:
                    found = read_certificate(paper)
                    self.assertEqual((found.places, found.blocks),
                                     (verdict.certificate.places, verdict.certificate.blocks))
                    self.assertTrue(accepts(system, formula, found))
                else:
                    self.assertEqual(read_lasso(paper), (verdict.stem, verdict.loop))
                self.assertEqual(audit(system, formula, paper),
                                 "holds" if verdict.holds else "fails")

    def test_a_certificate_bars_every_lasso(self):
        for system, formula in random_questions(145, 100):
            first, second = check(system, formula), check_by_classes(system, formula)
            self.assertIs(first.holds, second.holds)
            for other in (("false",), ("not", formula), ("next", formula)):
                verdict = check(system, other)
                if first.holds and not verdict.holds:
                    self.assertFalse(refutes(system, formula, verdict.stem, verdict.loop))
                if not first.holds and verdict.holds and few_rows(other):
                    self.assertFalse(other == formula)
                    self.assertFalse(refutes(system, other, first.stem, first.loop))

import unittest
from copy import deepcopy
from random import Random

from lassoproof.checking.checker import accepts, refutes
from lassoproof.checking.search import check
from lassoproof.checking.verdicts import Certificate, Verdict
from lassoproof.classes.lifting import check_by_classes
from lassoproof.formulas.rows import number_rows
from lassoproof.language.reader import read_formula
from lassoproof.papers.audit import audit, write_answer
from lassoproof.papers.certificates import read_certificate, write_certificate
from lassoproof.papers.lassos import read_lasso, write_lasso
from lassoproof.systems.reader import read_system
from tests.faults import told, unknown
from tests.papers import first_wrong_certificate_line, first_wrong_lasso_line, spoilt
from tests.systems import COUNTER, FAIR_LOCK, STAY, many_rows, random_atom, random_system
from tests.trees import random_formula

TEXTS_OF_NEITHER_FORM = [
    "", "\n", "holds\n", "fails", "nothing", "holds\nplace", "fails\nstem 0", "fails\nloop 0\n",
    "holds\nonce : 0\nplace 0 :", " holds", "fails\nloop -0", "holds\n once : 0", "\u0661",
]


class Written(unittest.TestCase):
    def test_certificates_and_lassos(self):
        certificate = Certificate([((0,), (True,))], [("once", 0, [0], [])])
        self.assertEqual(write_answer(Verdict(True, certificate, None, None)),
                         "holds\nplace 0 : 1\nonce : 0")
        self.assertEqual(write_answer(Verdict(False, None, [(0,)], [(1, -2)])),
                         "fails\nstem 0\nloop 1 -2")

    def test_answers_of_checks(self):
        system = read_system(COUNTER)
        for text in ("F x = 2", "G x < 2", "true", "false"):
            formula = read_formula(text)
            for function in (check, check_by_classes):
                verdict = function(system, formula)
                paper = write_answer(verdict)
                self.assertEqual(audit(system, formula, paper),
                                 "holds" if verdict.holds else "fails")
                if verdict.holds:
                    self.assertEqual(paper, write_certificate(verdict.certificate))
                else:
                    self.assertEqual(paper, write_lasso(verdict.stem, verdict.loop))


class Audits(unittest.TestCase):
    def test_the_example(self):
        system = read_system(
            "var x in 0..2 start 0\nprocess p\nwhen x < 2 do x := x + 1")
        paper = "fails\nstem 0\nstem 1\nloop 2"
        self.assertEqual([audit(system, read_formula("G x < 2"), paper),
                          audit(system, read_formula("F x = 2"), paper)], ["fails", "nothing"])

    def test_texts_of_neither_form(self):
        system = read_system(COUNTER)
        for paper in TEXTS_OF_NEITHER_FORM:
            for formula in (("true",), ("false",)):
                self.assertEqual(audit(system, formula, paper), "nothing", paper)

    def test_lassos(self):
        system = read_system(COUNTER + STAY + "\njustice x = 2")
        formula = read_formula("F x = 1 and G x < 2")
        for paper, wanted in [
            ("fails\nstem 0\nstem 1\nloop 2", "fails"), ("fails\nstem 0\nloop 1\nloop 2", "nothing"),
            ("fails\nloop 0", "nothing"), ("fails\nstem 1\nloop 2", "nothing"),
            ("fails\nstem 0\nstem 1\nloop 3", "nothing"), ("fails\nstem 0 0\nloop 2 2", "nothing"),
            ("fails\nstem\nloop", "nothing"), (f"fails\nloop {10 ** 18 - 1}", "nothing"),
            ("fails\nstem 0\nstem 1\nstem 1\nloop 2\nloop 2", "fails"),
            ("fails\nstem 0\nstem 1\nloop 2\nloop", "nothing"),
        ]:
            self.assertEqual(audit(system, formula, paper), wanted, paper)

    def test_certificates(self):
        system, formula = read_system(COUNTER), read_formula("x = 1 or X x = 1")
        paper = write_answer(check(system, formula))
        self.assertEqual(paper, "holds\nplace 0 : 0\nonce : 0")
        self.assertEqual(audit(system, formula, paper), "holds")
        for other in ["holds", "holds\nplace 0 : 0", "holds\nplace 0 : 0\nonce :",
                      "holds\nplace 0 : 1\nonce : 0", "holds\nplace 0 : 0\nonce : 1",
                      "holds\nplace 0 : 0\njustice 0 : 0", "holds\nonce : 0",
                      "holds\nplace 0 : 0\nplace 0 : 0\nonce : 0\nonce : 1"]:
            self.assertEqual(audit(system, formula, other), "nothing", other)

    def test_places_that_are_no_states(self):
        system, formula = read_system(COUNTER), read_formula("x = 1 or X x = 1")
        for place in ["place 0 : 0 0", "place 0 :", "place : 0", "place 3 : 0", "place -1 : 0",
                      "place 0 0 : 0", f"place {10 ** 18 - 1} : 0"]:
            for paper in [f"holds\n{place}\nonce : 0",
                          f"holds\nplace 0 : 0\n{place}\nonce : 0\nonce : 1"]:
                self.assertEqual(audit(system, formula, paper), "nothing", paper)

    def test_large_numbers_in_blocks(self):
        system, formula = read_system(COUNTER), read_formula("x = 1 or X x = 1")
        for block in [f"once : {10 ** 18 - 1}", f"justice {10 ** 18 - 1} : 0",
                      f"compassion {10 ** 18 - 1} : 0", "once : 0 0", "compassion 0 : 0\n once : 0"]:
            paper = f"holds\nplace 0 : 0\n{block}"
            self.assertEqual(audit(system, formula, paper), "nothing", paper)

    def test_answers_of_other_formulas_and_systems(self):
        system = read_system(FAIR_LOCK)
        formulas = [read_formula(text) for text in [
            "G (a = 1 -> F a = 2)", "G F a = 2", "G not (a = 2 and b = 2)", "F (a = 1 and b = 1)",
            "true", "false", "F a = 1",
        ]]
        for one in formulas:
            verdict = check(system, one)
            paper = write_answer(verdict)
            for other in formulas:
                if verdict.holds:
                    right = accepts(system, other, verdict.certificate)
                else:
                    right = refutes(system, other, verdict.stem, verdict.loop)
                wanted = ("holds" if verdict.holds else "fails") if right else "nothing"
                self.assertEqual(audit(system, other, paper), wanted)
        paper = write_answer(check(system, formulas[0]))
        weaker = read_system(FAIR_LOCK.replace("compassion a = 1 and lock = 0 : a = 2", ""))
        self.assertEqual(audit(weaker, formulas[0], paper), "nothing")

    def test_never_both(self):
        random = Random(115)
        found = {"holds": 0, "fails": 0, "nothing": 0}
        for _ in range(120):
            system = random_system(random)
            formulas = [random_formula(random, 3, lambda: random_atom(random, system.names))
                        for _ in range(3)]
            formulas = [one for one in formulas if len(number_rows(one).temporal) <= 3]
            papers = [write_answer(check(system, formula)) for formula in formulas]
            papers += [spoilt(random, paper) for paper in papers]
            for formula in formulas:
                told_so = {audit(system, formula, paper) for paper in papers}
                self.assertFalse({"holds", "fails"} <= told_so)
                for one in told_so:
                    found[one] += 1
        self.assertGreater(min(found.values()), 50)

    def test_spoilt_texts_make_no_error(self):
        random = Random(116)
        for _ in range(300):
            system = random_system(random)
            formula = random_formula(random, 3, lambda: random_atom(random, system.names))
            if len(number_rows(formula).temporal) > 3:
                continue
            paper = write_answer(check(system, formula))
            for _ in range(3):
                paper = spoilt(random, paper)
                wanted = "nothing"
                if first_wrong_certificate_line(paper) is None:
                    if accepts(system, formula, read_certificate(paper)):
                        wanted = "holds"
                elif first_wrong_lasso_line(paper) is None:
                    if refutes(system, formula, *read_lasso(paper)):
                        wanted = "fails"
                self.assertEqual(audit(system, formula, paper), wanted)


class Errors(unittest.TestCase):
    def test_unknown_names_for_every_text(self):
        system = read_system(COUNTER)
        papers = TEXTS_OF_NEITHER_FORM + ["holds", "holds\nplace 0 : 0\nonce : 0",
                                          "fails\nstem 0\nloop 1", "fails\nloop 5"]
        for formula, name in [(read_formula("x = 0 or F b > a"), "a"), (many_rows(13, "z"), "z"),
                              (("and", many_rows(13), read_formula("y = x")), "y")]:
            for paper in papers:
                self.assertEqual(told(audit, system, formula, paper), unknown(name))

    def test_too_many_promises_for_certificates_alone(self):
        system = read_system(COUNTER)
        for count in (13, 20):
            formula = many_rows(count)
            for paper in ["holds", "holds\nplace 0 : 0\nonce : 0", "holds\nplace 9 9 :"]:
                self.assertEqual(told(audit, system, formula, paper),
                                 ("TooManyPromises", {"count": count}))
            for paper in TEXTS_OF_NEITHER_FORM:
                self.assertEqual(audit(system, formula, paper), "nothing")
            self.assertEqual(audit(system, formula, "fails\nstem 0\nstem 1\nloop 2"), "fails")
            self.assertEqual(audit(system, formula, "fails\nloop 1"), "nothing")
        self.assertEqual(audit(system, many_rows(12), "holds"), "nothing")

    def test_arguments_are_not_changed(self):
        system, formula = read_system(COUNTER), read_formula("G F x = 2")
        before = deepcopy((system.variables, system.processes, formula))
        paper = write_answer(check(system, formula))
        self.assertEqual(audit(system, formula, paper), "holds")
        self.assertEqual((system.variables, system.processes, formula), before)

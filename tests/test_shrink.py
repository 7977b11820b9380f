import unittest
from random import Random

from lassoproof.formulas.shrink import shrink, size
from lassoproof.language.reader import read_formula
from tests.runs import all_lassos, meaning_on
from tests.trees import (
    comparisons, depth, formula_size, random_comparison, random_formula, subtrees, temporal_parts,
)

P, Q, R = [("equal", ("name", "x"), ("number", k)) for k in (0, 1, 2)]
LONG = ("below", ("plus", ("name", "x"), ("times", ("name", "x"), ("number", 3))), ("number", 2))
LASSOS = all_lassos([(0,), (1,), (2,)], [0, 1], [1, 2])
ONE = ("not", "next", "eventually", "always")
TWO = ("and", "or", "implies", "same", "until", "release", "unless", "strong")
CONSTANTS = (("true",), ("false",))


class Sizes(unittest.TestCase):
    def test_a_comparison_is_one_node(self):
        self.assertEqual(size(P), 1)
        self.assertEqual(size(LONG), 1)

    def test_other_nodes(self):
        for text, nodes in [
            ("true", 1), ("false", 1), ("not x = 1", 2), ("x <> 1", 2), ("X F G x = 1", 4),
            ("x + 1 = 2 and true", 3), ("x = 1 U x = 1", 3), ("x = 1 -> (x = 1 <-> x = 1)", 5),
            ("F x = 1 or F x = 1", 5),
        ]:
            self.assertEqual(size(read_formula(text)), nodes, text)

    def test_random_formulas(self):
        random = Random(10)
        for _ in range(100):
            formula = random_formula(random, 6, lambda: random_comparison(random, 3, ["x"]))
            self.assertEqual(size(formula), formula_size(formula))


class Shrinking(unittest.TestCase):
    def check(self, formula):
        found = shrink(formula)
        self.assertEqual(meaning_on(found, ["x"], LASSOS), meaning_on(formula, ["x"], LASSOS),
                         (formula, found))
        self.assertLessEqual(formula_size(found), formula_size(formula))
        self.assertLessEqual(depth(found), depth(formula))
        self.assertLessEqual(len(temporal_parts(found)), len(temporal_parts(formula)))
        self.assertLessEqual(comparisons(found), comparisons(formula))
        if found not in CONSTANTS:
            for tree in subtrees(found):
                self.assertNotIn(tree, CONSTANTS, formula)
        return found

    def test_formulas_without_true_and_false(self):
        for formula in [P, LONG, ("not", P)] + [(word, P, LONG) for word in TWO]:
            self.check(formula)

    def test_constants_alone(self):
        self.assertEqual(self.check(("true",)), ("true",))
        self.assertEqual(self.check(("false",)), ("false",))

    def test_constants_under_each_operator(self):
        for constant in CONSTANTS:
            for word in ONE:
                self.assertIn(self.check((word, constant)), CONSTANTS)
            for word in TWO:
                for other in CONSTANTS:
                    self.assertIn(self.check((word, constant, other)), CONSTANTS)
                for part in (P, LONG, ("next", P), ("not", Q)):
                    self.check((word, constant, part))
                    self.check((word, part, constant))

    def test_two_operators_with_a_constant_at_every_place(self):
        for constant in CONSTANTS:
            for outer in TWO:
                for inner in TWO:
                    self.check((outer, (inner, constant, P), Q))
                    self.check((outer, (inner, P, constant), Q))
                    self.check((outer, P, (inner, constant, Q)))
                    self.check((outer, P, (inner, Q, constant)))
                for inner in ONE:
                    self.check((outer, (inner, constant), Q))
                    self.check((outer, P, (inner, constant)))
                    self.check((inner, (outer, constant, Q)))
                    self.check((inner, (outer, P, constant)))

    def test_parts_that_become_equal_to_each_other(self):
        f = ("until", ("true",), P)
        g = ("eventually", P)
        self.check(("and", f, g))
        self.check(("until", ("same", f, ("false",)), ("implies", g, ("false",))))
        self.check(("or", ("release", ("false",), P), ("unless", P, ("false",))))

    def test_random_formulas(self):
        random = Random(11)
        atoms = [P, Q, R, LONG]
        for _ in range(600):
            constants = random.choice([0.1, 0.4, 0.7])
            self.check(random_formula(random, 4, lambda: random.choice(atoms), constants))

    def test_a_deep_formula(self):
        formula = P
        for k in range(36):
            formula = (TWO[k % 8], CONSTANTS[k % 2], ("next", formula)) if k % 2 else \
                (ONE[k % 4], formula)
        found = shrink(formula)
        self.assertLessEqual(depth(found), depth(formula))
        self.assertTrue(found in CONSTANTS or not set(subtrees(found)) & set(CONSTANTS))

    def test_comparisons_of_numbers_are_no_constants(self):
        formula = ("equal", ("number", 1), ("number", 1))
        self.assertLessEqual(comparisons(shrink(("and", formula, P))), {formula, P})

import unittest
from random import Random

from lassoproof.formulas.positive import negated, positive
from lassoproof.formulas.shrink import size
from lassoproof.language.reader import read_formula
from tests.runs import all_lassos, meaning_on
from tests.trees import formula_size, random_comparison, random_formula, subtrees

X, Y = ("name", "x"), ("name", "y")
P, Q = ("equal", X, Y), ("below", X, Y)
NOT_P, NOT_Q = ("not", P), ("upto", Y, X)
DUALS = [("and", "or"), ("next", "next"), ("eventually", "always"), ("until", "release"),
         ("unless", "strong")]


def operands(word):
    return 1 if word in ("next", "eventually", "always") else 2


class Positive(unittest.TestCase):
    def test_example(self):
        self.assertEqual(
            positive(read_formula("not (x = 1 U x < 2)")),
            ("release", ("not", ("equal", ("name", "x"), ("number", 1))),
             ("upto", ("number", 2), ("name", "x"))),
        )

    def test_constants_and_comparisons(self):
        for formula in [("true",), ("false",), P, Q, ("upto", X, Y)]:
            self.assertEqual(positive(formula), formula)

    def test_not_implies_and_same(self):
        self.assertEqual(positive(NOT_P), NOT_P)
        self.assertEqual(positive(("not", Q)), NOT_Q)
        self.assertEqual(positive(("not", NOT_P)), P)
        self.assertEqual(positive(("implies", P, Q)), ("or", NOT_P, Q))
        self.assertEqual(positive(("same", ("not", Q), ("not", ("true",)))),
                         ("same", NOT_Q, ("false",)))

    def test_every_other_operator_stays(self):
        for pair in DUALS:
            for word in pair:
                formula = (word,) + (("not", Q), ("not", P))[:operands(word)]
                self.assertEqual(positive(formula), (word,) + (NOT_Q, NOT_P)[:operands(word)])


class Negated(unittest.TestCase):
    def test_constants_and_comparisons(self):
        self.assertEqual(negated(("true",)), ("false",))
        self.assertEqual(negated(("false",)), ("true",))
        self.assertEqual(negated(P), NOT_P)
        self.assertEqual(negated(Q), ("upto", Y, X))
        self.assertEqual(negated(("upto", X, Y)), ("below", Y, X))

    def test_not_implies_and_same(self):
        self.assertEqual(negated(NOT_P), P)
        self.assertEqual(negated(("not", ("implies", P, Q))), ("or", NOT_P, Q))
        self.assertEqual(negated(("implies", P, Q)), ("and", P, NOT_Q))
        self.assertEqual(negated(("implies", ("not", Q), NOT_P)), ("and", NOT_Q, P))
        self.assertEqual(negated(("same", P, Q)), ("same", NOT_P, Q))
        self.assertEqual(negated(("same", Q, ("not", Q))), ("same", NOT_Q, NOT_Q))

    def test_every_other_operator_turns_into_its_dual(self):
        for one, other in DUALS + [(other, one) for one, other in DUALS]:
            parts = (P, Q)[:operands(one)]
            self.assertEqual(negated((one,) + parts), (other,) + (NOT_P, NOT_Q)[:operands(one)])
            self.assertEqual(positive(("not", (one,) + parts)), negated((one,) + parts))


class RandomFormulas(unittest.TestCase):
    def test_form_size_and_meaning(self):
        random = Random(9)
        lassos = all_lassos([(0, 0), (0, 1), (1, 0)], [0, 1], [1, 2])
        for _ in range(300):
            formula = random_formula(random, 4, lambda: random_comparison(random, 2, ["x", "y"]))
            truths = meaning_on(formula, ["x", "y"], lassos)
            for found, wanted in [(positive(formula), truths),
                                  (negated(formula), [not truth for truth in truths])]:
                for tree in subtrees(found):
                    self.assertNotEqual(tree[0], "implies")
                    if tree[0] == "not":
                        self.assertEqual(tree[1][0], "equal")
                self.assertLessEqual(formula_size(found), 2 * formula_size(formula))
                self.assertLessEqual(size(found), 2 * size(formula))
                self.assertEqual(meaning_on(found, ["x", "y"], lassos), wanted)

    def test_the_bound_on_the_size_is_reached(self):
        self.assertEqual((size(P), size(negated(P))), (1, 2))
        formula = ("and", P, ("and", P, P))
        self.assertEqual(size(negated(formula)), size(formula) + 3)

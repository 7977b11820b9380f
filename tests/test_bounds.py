"""What stands at the bounds of point 0.5 is still read, written, changed and evaluated."""

import unittest

from lassoproof.branching.answers import answer_system
from lassoproof.checking.checker import accepts
from lassoproof.checking.search import check
from lassoproof.checking.verdicts import Certificate
from lassoproof.classes.lifting import check_by_classes
from lassoproof.formulas.positive import negated, positive
from lassoproof.formulas.rows import formula_of, number_rows
from lassoproof.formulas.shrink import shrink, size
from lassoproof.lassos.meaning import truths_along
from lassoproof.language.reader import read_condition, read_formula, read_term
from lassoproof.language.tokens import tokenize
from lassoproof.language.values import is_condition, names_in, truth, value
from lassoproof.language.writer import write_formula, write_term
from lassoproof.papers.audit import audit, write_answer
from lassoproof.papers.certificates import read_certificate, write_certificate
from lassoproof.systems.model import System
from lassoproof.systems.reader import read_system
from lassoproof.systems.writer import write_system
from tests.faults import syntax, told
from tests.trees import depth, subtrees

X = ("name", "x")
P = ("equal", X, ("number", 1))
LARGE = 10 ** 18 - 1


def nested(word, inner, levels, *more):
    for _ in range(levels):
        inner = (word, inner) + more
    return inner


def balanced(word, leaf, levels):
    return leaf if levels == 0 else (word, balanced(word, leaf, levels - 1),
                                     balanced(word, leaf, levels - 1))


class DeepTrees(unittest.TestCase):
    def test_terms(self):
        for tree, result in [
            (nested("negative", X, 39), -3), (nested("plus", X, 39, X), 120),
            (nested("times", X, 39, X), 3 ** 40), (nested("least", X, 39, X), 3),
            (nested("quotient", X, 39, 1), 3), (nested("minus", X, 39, X), -114),
        ]:
            self.assertEqual(depth(tree), 40)
            self.assertEqual(value(tree, {"x": 3}), result)
            self.assertEqual(names_in(tree), ["x"])
            self.assertEqual(read_term(write_term(tree)), tree)

    def test_formulas(self):
        for word in ("not", "next", "eventually", "always"):
            self.check_formula(nested(word, P, 38))
        for word in ("and", "or", "implies", "same", "until", "release", "unless", "strong"):
            self.check_formula(nested(word, P, 38, P))
            right = P
            for _ in range(38):
                right = (word, P, right)
            self.check_formula(right)

    def check_formula(self, tree):
        self.assertEqual(depth(tree), 40)
        self.assertEqual(read_formula(write_formula(tree)), tree)
        rows = number_rows(tree)
        self.assertEqual(formula_of(rows, len(rows.rows) - 1), tree)
        self.assertEqual(shrink(tree), tree)
        self.assertEqual(positive(("not", negated(tree))), positive(tree))
        lasso = (["x"], [(0,), (1,)], [(1,), (2,), (1,)])
        self.assertEqual(truths_along(tree, *lasso), truths_along(positive(tree), *lasso))
        if is_condition(tree):
            self.assertIn(truth(tree, {"x": 1}), (True, False))

    def test_a_thousand_nodes(self):
        tree = balanced("and", balanced("or", P, 4), 4)
        self.assertEqual(size(tree), 511)
        self.assertEqual(len(subtrees(tree)), 1023)
        self.assertEqual(read_condition(write_formula(tree)), tree)
        self.assertEqual(number_rows(tree).facts, [P])
        self.assertIs(truth(tree, {"x": 1}), True)
        self.assertEqual(truths_along(tree, ["x"], [(0,)], [(1,)] * 2000), [False] + [True] * 2000)


class LongTexts(unittest.TestCase):
    def test_a_hundred_tokens(self):
        tree = read_formula("not " * 36 + "x = 1")
        self.assertEqual(depth(tree), 38)
        text = "x + 1" + " * y" * 38 + " - 2" * 9
        self.assertEqual(len(tokenize(text)), 98)
        self.assertEqual(read_term(text)[0], "minus")
        self.assertEqual(read_formula("(" * 20 + "x = 1 -> true" + ")" * 20),
                         ("implies", P, ("true",)))

    def test_wrong_texts(self):
        for text in ["not " * 100, "- " * 100, "not X " * 50, "x = 1 -> " * 25, "x + " * 50,
                     "x U " * 50, "(" * 20, "(not " * 20 + "- " * 60, "(x + " * 20 + "min"]:
            self.assertEqual(told(read_formula, text), syntax(len(text)))

    def test_numbers(self):
        self.assertEqual(read_term(str(LARGE)), ("number", LARGE))
        self.assertEqual(read_term(f"x div {LARGE}"), ("quotient", X, LARGE))
        self.assertEqual(value(read_term(f"x * {LARGE}"), {"x": LARGE}), LARGE ** 2)

    def test_a_long_system(self):
        lines = [f"var v{k} in 0..9 start {k % 10}" for k in range(300)]
        for k in range(300):
            lines += [f"process p{k}", f"when v{k} < 9 do v{k} := v{k} + 1"]
        lines += [f"justice v{k} = 0" for k in range(300)]
        lines += [f"compassion v{k} = 0 : v{k} = 1" for k in range(40)]
        text = "\n".join(lines)
        system = read_system(text)
        self.assertEqual(write_system(system), text)
        self.assertEqual(len(system.successors(system.initial_states()[0])), 270)


class LargeFormulas(unittest.TestCase):
    """Formulas at the bounds in checks, with two ways to check and the written answers."""

    def setUp(self):
        self.system = read_system("var x in 0..2 start 0\nprocess p\nwhen true do x := 2 - x")

    def check_formula(self, formula, wanted):
        for function in (check, check_by_classes):
            verdict = function(self.system, formula)
            self.assertIs(verdict.holds, wanted)
            paper = write_answer(verdict)
            self.assertEqual(audit(self.system, formula, paper), "holds" if wanted else "fails")

    def test_depth_40(self):
        inner = ("always", ("eventually", ("equal", X, ("number", 2))))
        self.check_formula(nested("not", inner, 34), True)
        self.check_formula(nested("not", inner, 35), False)
        self.check_formula(nested("next", inner, 10), True)
        deep = nested("until", ("upto", X, ("number", 2)), 12, P)
        self.check_formula(nested("and", deep, 26, ("true",)), False)

    def test_a_thousand_nodes(self):
        leaf = ("eventually", ("equal", X, ("number", 2)))
        self.check_formula(balanced("or", balanced("and", leaf, 4), 3), True)
        self.check_formula(("next", balanced("and", P, 7)), False)

    def test_branching_formulas(self):
        goal = ("equal", X, ("number", 2))
        for word in ("ex", "ax", "ef", "af", "eg", "ag"):
            formula = nested(word, goal, 38)
            self.assertEqual(depth(formula), 40)
            wanted = word in ("ex", "ax") and 38 % 2 == 1 or word in ("ef", "af")
            self.assertIs(answer_system(self.system, formula), wanted, word)
        for word in ("eu", "au"):
            before = ("below", X, ("number", 2))
            self.assertIs(answer_system(self.system, nested(word, before, 38, goal)), True)
            self.assertIs(answer_system(self.system, nested(word, P, 38, goal)), False)

    def test_forty_blocks_around_a_block(self):
        blocks = [("once", 0, [0], [])]
        for _ in range(40):
            blocks = [("compassion", 0, [0], blocks)]
        certificate = Certificate([((0,), ())], blocks)
        self.assertEqual(read_certificate(write_certificate(certificate)).blocks, blocks)
        self.assertIs(accepts(self.system, ("true",), certificate), False)


class LargeSystems(unittest.TestCase):
    def test_a_hundred_thousand_initial_states(self):
        system = System([("x", 0, 9, 0, 9), ("y", -4999, 5000, -4999, 5000)], [], [], [])
        states = system.initial_states()
        self.assertEqual(len(states), 100000)
        self.assertEqual(states, sorted(states))

    def test_ten_thousand_moves(self):
        def commands(name):
            return [("a", ("true",), [(name, ("number", k))]) for k in range(100)]

        system = System([("x", 0, 99, 0, 0), ("y", 0, 99, 0, 0)],
                        [("p", commands("x")), ("q", commands("y"))], [], [])
        self.assertEqual(len(system.successors((0, 0))), 10000)

    def test_forty_pairs_of_compassion(self):
        pairs = [(("true",), ("below", X, ("number", k))) for k in range(40)]
        self.assertEqual(System([("x", 0, 1, 0, 0)], [], [], pairs).compassion, pairs)

import unittest
from random import Random

from lassoproof.language.reader import read_condition, read_formula, read_term
from lassoproof.language.writer import write_formula, write_term
from tests.trees import random_comparison, random_formula, random_term

A, B = ("name", "a"), ("name", "b")
P, Q = ("equal", A, ("number", 1)), ("below", B, A)

TERMS = {"plus": "+", "minus": "-", "times": "*"}
DIVISIONS = {"quotient": "div", "remainder": "mod"}
COMPARISONS = {"equal": "=", "below": "<", "upto": "<="}
CONNECTIVES = {"same": "<->", "implies": "->", "or": "or", "and": "and", "until": "U",
               "release": "R", "unless": "W", "strong": "M"}
BEFORE = {"not": "not", "next": "X", "eventually": "F", "always": "G"}
LEVELS = {"same": 1, "implies": 2, "or": 3, "and": 4, "until": 5, "release": 5, "unless": 5,
          "strong": 5, "not": 6, "next": 6, "eventually": 6, "always": 6, "equal": 7, "below": 7,
          "upto": 7, "plus": 8, "minus": 8, "times": 9, "quotient": 9, "remainder": 9,
          "negative": 10}


def inner_terms():
    """A term of each operator, with its text."""
    found = [((word, A, B), f"a {sign} b") for word, sign in TERMS.items()]
    found += [((word, A, 2), f"a {sign} 2") for word, sign in DIVISIONS.items()]
    found += [(("negative", A), "-a"), (A, "a"), (("number", 12), "12"),
              (("least", A, B), "min(a, b)"), (("most", A, B), "max(a, b)")]
    return found


def inner_formulas():
    """A formula of each operator, with its text."""
    found = [((word, P, Q), f"a = 1 {sign} b < a") for word, sign in CONNECTIVES.items()]
    found += [((word, P), f"{sign} a = 1") for word, sign in BEFORE.items()]
    found += [((word, A, B), f"a {sign} b") for word, sign in COMPARISONS.items()]
    return found + [(("true",), "true"), (("false",), "false")]


def placed(tree, text, required):
    """The text of an operand by the words of point 1.8."""
    return f"({text})" if LEVELS.get(tree[0], 11) < required else text


class Example(unittest.TestCase):
    def test_the_example(self):
        tree = ("not", ("or", ("equal", ("name", "x"), ("number", 1)), ("true",)))
        self.assertEqual(write_formula(tree), "not (x = 1 or true)")


class Terms(unittest.TestCase):
    def check(self, tree, text):
        self.assertEqual(write_term(tree), text)
        self.assertEqual(read_term(text), tree)

    def test_leaves(self):
        self.check(("number", 0), "0")
        self.check(("number", 10 ** 18 - 1), "9" * 18)
        self.check(("name", "aB_1"), "aB_1")

    def test_each_operator_alone(self):
        for tree, text in inner_terms():
            self.check(tree, text)

    def test_brackets_on_each_side_of_sums_and_products(self):
        for word, level in [("plus", 8), ("minus", 8), ("times", 9)]:
            for tree, text in inner_terms():
                left, right = placed(tree, text, level), placed(tree, text, level + 1)
                self.check((word, tree, B), f"{left} {TERMS[word]} b")
                self.check((word, B, tree), f"b {TERMS[word]} {right}")

    def test_brackets_before_div_and_mod(self):
        for word, sign in DIVISIONS.items():
            for tree, text in inner_terms():
                self.check((word, tree, 17), f"{placed(tree, text, 9)} {sign} 17")

    def test_brackets_behind_a_minus(self):
        for tree, text in inner_terms():
            self.check(("negative", tree), f"-{placed(tree, text, 10)}")

    def test_no_brackets_in_min_and_max(self):
        for tree, text in inner_terms():
            self.check(("least", tree, B), f"min({text}, b)")
            self.check(("most", B, tree), f"max(b, {text})")

    def test_minus_before_numbers_names_and_another_minus(self):
        self.check(("negative", ("number", 5)), "-5")
        self.check(("negative", ("negative", A)), "--a")
        self.check(("negative", ("negative", ("negative", ("number", 0)))), "---0")
        self.check(("minus", A, ("negative", ("number", 5))), "a - -5")
        self.check(("minus", ("negative", A), ("negative", ("negative", B))), "-a - --b")
        self.check(("times", ("negative", A), ("negative", B)), "-a * -b")
        self.check(("negative", ("times", A, B)), "-(a * b)")
        self.check(("quotient", ("negative", A), 2), "-a div 2")
        self.check(("negative", ("quotient", A, 2)), "-(a div 2)")
        self.check(("plus", ("negative", ("plus", A, B)), A), "-(a + b) + a")

    def test_rows_of_one_level(self):
        self.check(("minus", ("minus", A, B), A), "a - b - a")
        self.check(("minus", A, ("minus", B, A)), "a - (b - a)")
        self.check(("times", A, ("times", B, A)), "a * (b * a)")
        self.check(("times", ("quotient", A, 2), B), "a div 2 * b")
        self.check(("times", B, ("quotient", A, 2)), "b * (a div 2)")


class Formulas(unittest.TestCase):
    def check(self, tree, text):
        self.assertEqual(write_formula(tree), text)
        self.assertEqual(read_formula(text), tree)

    def test_each_operator_alone(self):
        for tree, text in inner_formulas():
            self.check(tree, text)

    def test_brackets_on_each_side(self):
        for word, sign in CONNECTIVES.items():
            level = LEVELS[word]
            to_the_right = word in ("implies", "until", "release", "unless", "strong")
            for tree, text in inner_formulas():
                left = placed(tree, text, level + 1 if to_the_right else level)
                right = placed(tree, text, level if to_the_right else level + 1)
                self.check((word, tree, Q), f"{left} {sign} b < a")
                self.check((word, P, tree), f"a = 1 {sign} {right}")

    def test_brackets_behind_operators_before_one_operand(self):
        for word, sign in BEFORE.items():
            for tree, text in inner_formulas():
                self.check((word, tree), f"{sign} {placed(tree, text, 6)}")

    def test_comparisons_have_no_brackets_around_terms(self):
        for word, sign in COMPARISONS.items():
            for tree, text in inner_terms():
                self.check((word, tree, B), f"{text} {sign} b")
                self.check((word, B, tree), f"b {sign} {text}")

    def test_signs_that_are_never_written(self):
        for text, written in [("a <> b", "not a = b"), ("a > b", "b < a"), ("a >= b", "b <= a")]:
            self.assertEqual(write_formula(read_formula(text)), written)

    def test_conditions(self):
        text = "a = 1 and not b < 2 -> true"
        self.assertEqual(write_formula(read_condition(text)), text)

    def test_rows_of_one_level(self):
        self.check(("until", P, ("until", Q, P)), "a = 1 U b < a U a = 1")
        self.check(("until", ("until", P, Q), P), "(a = 1 U b < a) U a = 1")
        self.check(("until", P, ("strong", Q, P)), "a = 1 U b < a M a = 1")
        self.check(("implies", P, ("implies", Q, P)), "a = 1 -> b < a -> a = 1")
        self.check(("implies", ("implies", P, Q), P), "(a = 1 -> b < a) -> a = 1")
        self.check(("same", ("same", P, Q), P), "a = 1 <-> b < a <-> a = 1")
        self.check(("same", P, ("same", Q, P)), "a = 1 <-> (b < a <-> a = 1)")
        self.check(("not", ("next", ("always", ("not", P)))), "not X G not a = 1")


class ReadAgain(unittest.TestCase):
    def test_terms(self):
        random = Random(6)
        for _ in range(1000):
            tree = random_term(random, 7, ["a", "b", "xY_9"])
            self.assertEqual(read_term(write_term(tree)), tree)

    def test_formulas_and_conditions(self):
        random = Random(7)
        for _ in range(1000):
            temporal = random.random() < 0.5
            tree = random_formula(
                random, 6, lambda: random_comparison(random, 4, ["a", "b"]), temporal=temporal,
            )
            self.assertEqual(read_formula(write_formula(tree)), tree)
            if not temporal:
                self.assertEqual(read_condition(write_formula(tree)), tree)

    def test_deep_trees(self):
        term, formula = A, P
        for k in range(38):
            term = [("negative", term), ("minus", A, term), ("minus", term, A)][k % 3]
        for k in range(36):
            formula = [("not", formula), ("until", formula, Q), ("same", Q, formula)][k % 3]
        self.assertEqual(read_term(write_term(term)), term)
        self.assertEqual(read_formula(write_formula(formula)), formula)

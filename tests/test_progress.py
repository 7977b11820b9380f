import unittest
from random import Random

from lassoproof.lassos.meaning import true_on
from lassoproof.lassos.progress import moved_on
from lassoproof.language.reader import read_formula
from tests.faults import told, unknown
from tests.runs import all_lassos, meaning_on
from tests.trees import (
    TEMPORAL, comparisons, depth, formula_size, random_comparison, random_formula,
)

P, Q, R = [("equal", ("name", "x"), ("number", k)) for k in (0, 1, 2)]
ONE = ("not", "next", "eventually", "always")
TWO = ("and", "or", "implies", "same", "until", "release", "unless", "strong")
STATES = [(0,), (1,), (2,)]
LASSOS = all_lassos(STATES, [0, 1, 2], [1, 2])


class MovedOn(unittest.TestCase):
    def check(self, formula, state, lassos=LASSOS):
        found = moved_on(formula, ["x"], state)
        longer = [([state] + stem, loop) for stem, loop in lassos]
        self.assertEqual(meaning_on(found, ["x"], lassos), meaning_on(formula, ["x"], longer),
                         (formula, state, found))
        self.check_bounds(formula, found)
        return found

    def check_bounds(self, formula, found):
        s = formula_size(formula)
        self.assertLessEqual(formula_size(found), s * (s + 3))
        self.assertLessEqual(depth(found), 3 * depth(formula))
        self.assertLessEqual(comparisons(found), comparisons(formula))

    def test_leaves(self):
        for state in STATES:
            for formula in (("true",), ("false",), P, Q, ("below", ("name", "x"), ("number", 2))):
                self.check(formula, state)

    def test_each_word(self):
        parts = [P, Q, ("not", R), ("next", P), ("eventually", Q), ("true",), ("false",)]
        lassos = all_lassos(STATES, [0, 1], [1, 2])
        for state in STATES:
            for first in parts:
                for word in ONE:
                    self.check((word, first), state, lassos)
                for second in parts:
                    for word in TWO:
                        self.check((word, first, second), state, lassos)

    def test_next(self):
        for formula in (P, ("until", P, Q), ("next", P)):
            self.check(("next", formula), (0,))
            self.check(("next", ("not", ("next", formula))), (2,))

    def test_random_formulas(self):
        random = Random(51)
        lassos = all_lassos(STATES, [0, 1], [1, 2])
        for _ in range(400):
            formula = random_formula(random, 4, lambda: random.choice([P, Q, R]))
            self.check(formula, random.choice(STATES), lassos)

    def test_random_comparisons(self):
        random = Random(52)
        for _ in range(200):
            formula = random_formula(random, 4, lambda: random_comparison(random, 3, ["x", "y"]))
            state, other = [(random.randrange(-2, 3), random.randrange(4)) for _ in range(2)]
            found = moved_on(formula, ["x", "y"], state)
            self.assertIs(true_on(found, ["x", "y"], [other], [state]),
                          true_on(formula, ["x", "y"], [state, other], [state]))
            self.check_bounds(formula, found)

    def test_values_stand_in_the_order_of_the_names(self):
        formula = read_formula("a = 1 and X b = 2")
        found = moved_on(formula, ["b", "a"], (0, 1))
        self.assertIs(true_on(found, ["b", "a"], [], [(2, 0)]), True)
        found = moved_on(formula, ["a", "b"], (0, 1))
        self.assertIs(true_on(found, ["a", "b"], [], [(0, 2)]), False)

    def test_past_several_states(self):
        random = Random(53)
        for _ in range(100):
            formula = random_formula(random, 4, lambda: random.choice([P, Q, R]), 0.05)
            states = [random.choice(STATES) for _ in range(5)]
            moved = formula
            for state in states:
                moved = moved_on(moved, ["x"], state)
            for stem, loop in all_lassos(STATES, [0, 1], [1, 2]):
                self.assertIs(true_on(moved, ["x"], stem, loop),
                              true_on(formula, ["x"], states + stem, loop))

    def test_deep_formulas(self):
        for word in TEMPORAL:
            formula = P
            for _ in range(38):
                formula = (word, formula) if word in ONE else (word, formula, Q)
            self.check_deep(formula)
        for word in ("until", "release", "unless", "strong", "same", "implies"):
            formula = P
            for _ in range(38):
                formula = (word, Q, ("not", formula)) if depth(formula) < 37 else (word, Q, formula)
                if depth(formula) == 40:
                    break
            self.check_deep(formula)

    def check_deep(self, formula):
        for state in STATES:
            found = moved_on(formula, ["x"], state)
            self.check_bounds(formula, found)
            for stem, loop in all_lassos(STATES, [0, 1], [1, 2]):
                self.assertIs(true_on(found, ["x"], stem, loop),
                              true_on(formula, ["x"], [state] + stem, loop))

    def test_large_formulas(self):
        formula = P
        for k in range(8):
            formula = (("until", "release", "unless", "strong")[k % 4], formula, formula)
        s = formula_size(formula)
        self.assertEqual(s, 511)
        found = moved_on(formula, ["x"], (0,))
        self.assertLessEqual(formula_size(found), s * (s + 3))


class Errors(unittest.TestCase):
    def test_unknown_names_in_the_order_of_the_tree(self):
        for text, name in [("y = 1", "y"), ("b > a", "a"), ("X (x = 1 U c = d)", "c"),
                           ("true or y = 1", "y"), ("false and (z = 1 or y = 1)", "z"),
                           ("x = 0 or X y = 1", "y"), ("F (true or y = 1)", "y")]:
            self.assertEqual(told(moved_on, read_formula(text), ["x"], (0,)), unknown(name))

    def test_no_names_are_known(self):
        self.assertEqual(told(moved_on, ("next", P), [], ()), unknown("x"))

    def test_names_are_not_changed(self):
        names = ["x"]
        moved_on(read_formula("F x = 1"), names, (0,))
        self.assertEqual(names, ["x"])

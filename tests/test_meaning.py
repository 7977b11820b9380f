import unittest
from copy import deepcopy
from random import Random

from lassoproof.lassos.meaning import true_on, truths_along
from lassoproof.language.reader import read_formula
from tests.faults import told, unknown
from tests.runs import all_lassos, meaning
from tests.trees import TEMPORAL, random_comparison, random_formula

P, Q, R = [("equal", ("name", "x"), ("number", k)) for k in (0, 1, 2)]
ONE = ("next", "eventually", "always")
TWO = ("until", "release", "unless", "strong")
LASSOS = all_lassos([(0,), (1,), (2,)], [0, 1, 2], [1, 2])


class Words(unittest.TestCase):
    def check(self, formula, names, stem, loop):
        wanted = [meaning(formula, names, stem, loop, place)
                  for place in range(len(stem) + len(loop))]
        self.assertEqual(truths_along(formula, names, stem, loop), wanted, (formula, stem, loop))
        self.assertIs(true_on(formula, names, stem, loop), wanted[0])

    def test_the_example(self):
        formula = read_formula("x = 1 U x = 2")
        self.assertEqual(truths_along(formula, ["x"], [(0,)], [(1,), (2,)]), [False, True, True])

    def test_each_temporal_word_at_each_place(self):
        for stem, loop in LASSOS:
            for word in ONE:
                self.check((word, P), ["x"], stem, loop)
            for word in TWO:
                self.check((word, P, Q), ["x"], stem, loop)
                self.check((word, ("not", P), Q), ["x"], stem, loop)
                self.check((word, ("or", P, Q), ("or", Q, R)), ["x"], stem, loop)

    def test_each_temporal_word_on_longer_loops(self):
        for stem, loop in all_lassos([(0,), (1,)], [0, 1, 3], [3, 4]):
            for word in TEMPORAL:
                parts = (("not", P),) if word in ONE else (Q, ("next", P))
                self.check((word, *parts), ["x"], stem, loop)

    def test_the_other_words(self):
        for stem, loop in all_lassos([(0,), (1,)], [1], [1]):
            for word in ("and", "or", "implies", "same"):
                self.check((word, P, ("next", Q)), ["x"], stem, loop)
            self.check(("not", ("next", P)), ["x"], stem, loop)
            for formula in (("true",), ("false",), P, ("below", ("number", 1), ("number", 2))):
                self.check(formula, ["x"], stem, loop)

    def test_a_temporal_word_within_another(self):
        for stem, loop in all_lassos([(0,), (1,)], [0, 2], [1, 2, 3]):
            for outer in TEMPORAL:
                for inner in TEMPORAL:
                    first = (inner, P) if inner in ONE else (inner, P, Q)
                    parts = (first,) if outer in ONE else (("not", P), first)
                    self.check((outer, *parts), ["x"], stem, loop)

    def test_random_formulas(self):
        random = Random(41)
        names = ["x", "y"]
        for _ in range(300):
            formula = random_formula(random, 4, lambda: random.choice(
                [P, Q, random_comparison(random, 3, names)]))
            stem, loop = [[(random.randrange(3), random.randrange(-2, 3)) for _ in range(length)]
                          for length in (random.randrange(4), 1 + random.randrange(4))]
            self.check(formula, names, stem, loop)

    def test_the_truths_are_true_and_false(self):
        for text in ["x = 1", "true", "X x = 1", "F x = 1 and G x = 1", "x = 0 M x = 1", "x = 0 W false",
                     "not x = 1", "x = 1 -> F x = 2", "x = 1 <-> X x = 1", "x = 1 R x = 2 or x = 0"]:
            for truth in truths_along(read_formula(text), ["x"], [(0,), (1,)], [(2,), (1,)]):
                self.assertIsInstance(truth, bool)

    def test_values_stand_in_the_order_of_the_names(self):
        formula = read_formula("a = 1 and X b = 2")
        self.assertEqual(truths_along(formula, ["b", "a"], [(0, 1)], [(2, 0)]), [True, False])
        self.assertEqual(truths_along(formula, ["a", "b"], [(0, 1)], [(2, 0)]), [False, False])

    def test_no_variables(self):
        self.assertEqual(truths_along(read_formula("F 1 = 1"), [], [()], [(), ()]), [True] * 3)
        self.assertIs(true_on(read_formula("X false"), [], [], [()]), False)


class Expansions(unittest.TestCase):
    def same(self, left, right):
        for stem, loop in LASSOS:
            self.assertEqual(truths_along(left, ["x"], stem, loop),
                             truths_along(right, ["x"], stem, loop), (left, stem, loop))

    def test_expansions(self):
        for f, g in [(P, Q), (("not", P), ("next", Q)), (("eventually", R), ("not", Q))]:
            self.same(("eventually", f), ("or", f, ("next", ("eventually", f))))
            self.same(("always", f), ("and", f, ("next", ("always", f))))
            for word in ("until", "unless"):
                whole = (word, f, g)
                self.same(whole, ("or", g, ("and", f, ("next", whole))))
            for word in ("release", "strong"):
                whole = (word, f, g)
                self.same(whole, ("and", g, ("or", f, ("next", whole))))

    def test_definitions(self):
        for f, g in [(P, Q), (("or", P, R), ("or", P, Q)), (("next", R), ("not", P))]:
            self.same(("release", f, g), ("not", ("until", ("not", f), ("not", g))))
            self.same(("unless", f, g), ("or", ("until", f, g), ("always", f)))
            self.same(("strong", f, g), ("until", g, ("and", f, g)))


class Errors(unittest.TestCase):
    def test_unknown_names_in_the_order_of_the_tree(self):
        for text, name in [
            ("y = 1", "y"), ("b > a", "a"), ("F (x = 1 and z = y) or a = 1", "z"),
            ("x = y U z = 1", "y"), ("x + 1 = x - c mod 2", "c"), ("X x = 1 R min(x, d) < e", "d"),
        ]:
            formula = read_formula(text)
            for function in (truths_along, true_on):
                self.assertEqual(told(function, formula, ["x"], [(0,)], [(1,)]), unknown(name))

    def test_unknown_names_where_the_run_would_not_ask(self):
        for text in ["true or y = 1", "false and y = 1", "false -> y = 1", "x = 0 U (x = 0 or y = 1)",
                     "F (x = 0 or y = 0)", "G (x = 1 and y = 0)", "x = 0 M x = 0 or y = 1"]:
            formula = read_formula(text)
            self.assertEqual(told(truths_along, formula, ["x"], [(0,)], [(0,)]), unknown("y"))
            self.assertEqual(told(true_on, formula, ["x"], [(0,)], [(0,)]), unknown("y"))

    def test_no_names_are_known(self):
        self.assertEqual(told(true_on, P, [], [], [()]), unknown("x"))


class Lists(unittest.TestCase):
    def test_arguments_are_not_changed(self):
        arguments = (read_formula("G F x = 1 and x = 0 U x = 1"), ["x"], [(0,)], [(1,), (0,)])
        before = deepcopy(arguments)
        truths_along(*arguments)
        true_on(*arguments)
        self.assertEqual(arguments, before)

    def test_the_list_is_new(self):
        formula = read_formula("x = 0")
        truths_along(formula, ["x"], [(0,)], [(1,)]).clear()
        self.assertEqual(truths_along(formula, ["x"], [(0,)], [(1,)]), [True, False])

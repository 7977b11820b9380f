import unittest
from random import Random

from lassoproof.language.reader import read_condition, read_formula, read_term
from lassoproof.language.values import is_condition, names_in, truth, value
from tests.faults import told, unknown
from tests.trees import TEMPORAL, random_comparison, random_formula, random_term, subtrees

X = ("name", "x")
ONE = ("number", 1)
P = ("equal", X, ONE)


class Names(unittest.TestCase):
    def test_order_of_first_occurrence(self):
        self.assertEqual(names_in(read_term("b + a * (c - b) + min(d, a)")), ["b", "a", "c", "d"])
        self.assertEqual(names_in(read_term("z")), ["z"])
        self.assertEqual(names_in(read_term("-z div 2 + y mod 3 + max(x, w)")), list("zyxw"))
        self.assertEqual(names_in(read_term("1 + 2")), [])

    def test_order_is_that_of_the_tree_and_not_of_the_text(self):
        self.assertEqual(names_in(read_formula("b > a and c = 1")), ["a", "b", "c"])

    def test_formulas(self):
        self.assertEqual(
            names_in(read_formula("G (e = d) U not b < a -> F c = a <-> X f = g R h = 1")),
            ["e", "d", "b", "a", "c", "f", "g", "h"],
        )
        self.assertEqual(names_in(("true",)), [])
        for word in ("until", "release", "unless", "strong", "and", "or", "implies", "same"):
            tree = (word, ("equal", ("name", "b"), ONE), ("equal", ("name", "a"), ("name", "b")))
            self.assertEqual(names_in(tree), ["b", "a"])

    def test_branching_formulas(self):
        first = ("equal", ("name", "b"), ONE)
        second = ("upto", ("name", "a"), ("name", "b"))
        for word in ("ex", "ax", "ef", "af", "eg", "ag"):
            self.assertEqual(names_in((word, second)), ["a", "b"])
        for word in ("eu", "au"):
            self.assertEqual(names_in((word, first, second)), ["b", "a"])

    def test_random_trees(self):
        random = Random(3)
        for _ in range(300):
            tree = random_term(random, 6, ["a", "b", "c", "d", "e"])
            names = []
            for part in subtrees(tree):
                if part[0] == "name" and part[1] not in names:
                    names.append(part[1])
            self.assertEqual(names_in(tree), names)

    def test_the_list_is_new(self):
        names_in(P).append("more")
        self.assertEqual(names_in(P), ["x"])


class Conditions(unittest.TestCase):
    def test_conditions(self):
        for text in ["true", "false", "x = 1", "x < 1", "x <= 1", "not x = 1",
                     "x = 1 and (y = 1 or not true) -> (z = 1 <-> x > 2 * y)"]:
            self.assertIs(is_condition(read_condition(text)), True)

    def test_temporal_operators_at_every_place(self):
        for word in TEMPORAL:
            one = (word, P) if word in ("next", "eventually", "always") else (word, P, P)
            for tree in [one, ("not", one), ("and", one, P), ("or", P, one), ("implies", P, one),
                         ("same", ("not", one), P)]:
                self.assertIs(is_condition(tree), False)


class Terms(unittest.TestCase):
    def test_example(self):
        self.assertEqual(value(read_term("7 div 2 - 3 mod 2"), {}), 2)

    def test_each_operator(self):
        values = {"x": 7, "y": -3}
        for text, result in [
            ("12", 12), ("x", 7), ("y", -3), ("x + y", 4), ("x - y", 10), ("x * y", -21),
            ("-x", -7), ("-y", 3), ("min(x, y)", -3), ("max(x, y)", 7), ("min(y, x)", -3),
            ("max(y, x)", 7), ("x div 2", 3), ("x mod 2", 1), ("x div 1", 7), ("x mod 1", 0),
        ]:
            self.assertEqual(value(read_term(text), values), result, text)

    def test_quotients_are_rounded_down_and_remainders_are_never_negative(self):
        for number in range(-9, 10):
            for k in range(1, 5):
                quotient = value(("quotient", X, k), {"x": number})
                remainder = value(("remainder", X, k), {"x": number})
                self.assertEqual(quotient * k + remainder, number)
                self.assertIn(remainder, range(k))

    def test_large_values(self):
        large = 10 ** 18 - 1
        self.assertEqual(value(read_term("x * x * x + x"), {"x": large}), large ** 3 + large)
        self.assertEqual(value(read_term("-x * x div 2"), {"x": large}), -(large ** 2) // 2)

    def test_the_first_unknown_name(self):
        for text, name in [
            ("a", "a"), ("b + a", "b"), ("x + a * b", "a"), ("min(x, b)", "b"), ("a div 2", "a"),
            ("0 * a", "a"), ("-a", "a"), ("a mod 1", "a"),
        ]:
            self.assertEqual(told(value, read_term(text), {"x": 1}), unknown(name))

    def test_a_value_of_zero_is_a_value(self):
        self.assertEqual(value(read_term("x + y"), {"x": 0, "y": 0}), 0)


class Truths(unittest.TestCase):
    def check(self, text, values, result):
        self.assertIs(truth(read_condition(text), values), result, text)

    def test_comparisons(self):
        for x in (1, 2, 3):
            values = {"x": x, "y": 2}
            self.check("x = y", values, x == 2)
            self.check("x <> y", values, x != 2)
            self.check("x < y", values, x < 2)
            self.check("x <= y", values, x <= 2)
            self.check("x > y", values, x > 2)
            self.check("x >= y", values, x >= 2)

    def test_connectives(self):
        self.check("true", {}, True)
        self.check("false", {}, False)
        for x in (0, 1):
            for y in (0, 1):
                values, p, q = {"x": x, "y": y}, x == 1, y == 1
                self.check("not x = 1", values, not p)
                self.check("x = 1 and y = 1", values, p and q)
                self.check("x = 1 or y = 1", values, p or q)
                self.check("x = 1 -> y = 1", values, not p or q)
                self.check("x = 1 <-> y = 1", values, p == q)

    def test_an_unknown_name_where_another_operand_decides_already(self):
        for text, name in [
            ("false and a = 1", "a"), ("true or a = 1", "a"), ("false -> a = 1", "a"),
            ("a = 1 -> true", "a"), ("x = 2 and b > a", "a"), ("x = 1 or not b = 1", "b"),
            ("a = a", "a"), ("b = 1 and a = 1", "b"),
        ]:
            self.assertEqual(told(truth, read_condition(text), {"x": 1}), unknown(name), text)

    def test_random_conditions(self):
        random = Random(4)
        for _ in range(300):
            values = {name: random.randrange(-3, 4) for name in "abc"}
            tree = random_formula(
                random, 5, lambda: random_comparison(random, 3, ["a", "b", "c"]), temporal=False,
            )
            self.assertIs(truth(tree, values), naive(tree, values))

    def test_the_values_stay_as_they_are(self):
        values = {"x": 1}
        truth(P, values)
        value(X, values)
        self.assertEqual(values, {"x": 1})


def naive(tree, values):
    """The value of a term or a condition, by Python's own operators."""
    word = tree[0]
    if word == "number":
        return tree[1]
    if word == "name":
        return values[tree[1]]
    left, *rest = [naive(part, values) if isinstance(part, tuple) else part for part in tree[1:]] \
        or [None]
    right = rest[0] if rest else None
    return {
        "true": lambda: True, "false": lambda: False, "not": lambda: not left,
        "and": lambda: left and right, "or": lambda: left or right,
        "implies": lambda: not left or right, "same": lambda: left == right,
        "equal": lambda: left == right, "below": lambda: left < right,
        "upto": lambda: left <= right, "plus": lambda: left + right,
        "minus": lambda: left - right, "times": lambda: left * right,
        "negative": lambda: -left, "quotient": lambda: left // right,
        "remainder": lambda: left % right, "least": lambda: min(left, right),
        "most": lambda: max(left, right),
    }[word]()

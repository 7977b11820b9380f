import unittest
from random import Random

from lassoproof.formulas.rows import Rows, formula_of, number_rows
from lassoproof.language.reader import read_formula
from tests.trees import TEMPORAL, comparisons, random_comparison, random_formula, subtrees

X1, X2 = [("equal", ("name", "x"), ("number", k)) for k in (1, 2)]


class Numbering(unittest.TestCase):
    def check(self, text, rows, facts, temporal):
        found = number_rows(read_formula(text))
        self.assertEqual(found.rows, rows)
        self.assertEqual(found.facts, facts)
        self.assertEqual(found.temporal, temporal)

    def test_example(self):
        self.assertEqual(
            number_rows(read_formula("F x = 1 or F x = 1")).rows,
            [("fact", 0, -1), ("eventually", 0, -1), ("or", 1, 1)],
        )

    def test_constants_and_facts(self):
        self.check("true", [("true", -1, -1)], [], [])
        self.check("false", [("false", -1, -1)], [], [])
        self.check("x = 1", [("fact", 0, -1)], [X1], [])

    def test_each_operator(self):
        for sign, word in [("not", "not"), ("X", "next"), ("F", "eventually"), ("G", "always")]:
            self.check(f"{sign} x = 1", [("fact", 0, -1), (word, 0, -1)], [X1],
                       [] if word == "not" else [1])
        for sign, word in [("and", "and"), ("or", "or"), ("->", "implies"), ("<->", "same"),
                           ("U", "until"), ("R", "release"), ("W", "unless"), ("M", "strong")]:
            self.check(f"x = 1 {sign} x = 2", [("fact", 0, -1), ("fact", 1, -1), (word, 0, 1)],
                       [X1, X2], [2] if word in TEMPORAL else [])

    def test_the_first_part_comes_first(self):
        self.check(
            "(x = 2 -> true) U not x = 1",
            [("fact", 0, -1), ("true", -1, -1), ("implies", 0, 1), ("fact", 1, -1),
             ("not", 3, -1), ("until", 2, 4)],
            [X2, X1], [5],
        )

    def test_repeated_parts_have_one_row(self):
        self.check(
            "G (x = 1 and F x = 2) <-> F x = 2 and x = 1",
            [("fact", 0, -1), ("fact", 1, -1), ("eventually", 1, -1), ("and", 0, 2),
             ("always", 3, -1), ("and", 2, 0), ("same", 4, 5)],
            [X1, X2], [2, 4],
        )
        self.check("true and true", [("true", -1, -1), ("and", 0, 0)], [], [])

    def test_facts_that_look_alike(self):
        trees = [("equal", ("name", "x"), ("name", "y")), ("equal", ("name", "y"), ("name", "x")),
                 ("below", ("name", "x"), ("name", "y")), ("upto", ("name", "x"), ("name", "y")),
                 ("equal", ("minus", ("name", "x"), ("negative", ("number", 1))), ("name", "y")),
                 ("equal", ("plus", ("name", "x"), ("number", 1)), ("name", "y"))]
        formula = trees[0]
        for tree in trees[1:]:
            formula = ("and", formula, tree)
        self.assertEqual(number_rows(formula).facts, trees)

    def test_the_operator_and_each_part_tell_rows_apart(self):
        rows = number_rows(read_formula("x = 1 U x = 2 and x = 2 U x = 1 and x = 1 R x = 2")).rows
        self.assertEqual([row for row in rows if row[0] in TEMPORAL],
                         [("until", 0, 1), ("until", 1, 0), ("release", 0, 1)])

    def test_random_formulas(self):
        random = Random(8)
        for _ in range(300):
            formula = random_formula(random, 6, lambda: random_comparison(random, 3, ["x", "y"]))
            rows = number_rows(formula)
            trees = [formula_of(rows, number) for number in range(len(rows.rows))]
            wanted = [tree for tree in subtrees(formula)
                      if tree in comparisons(formula) or is_formula(tree)]
            self.assertEqual(trees[-1], formula)
            self.assertEqual(len(trees), len(set(trees)))
            self.assertEqual(set(trees), set(wanted))
            self.assertEqual(trees, in_order(formula, []))
            self.assertEqual(len(rows.facts), len(comparisons(formula)))
            self.assertEqual(rows.facts, [tree for tree in trees if tree in comparisons(formula)])
            self.assertEqual(rows.temporal,
                             [k for k, tree in enumerate(trees) if tree[0] in TEMPORAL])


def is_formula(tree):
    return tree[0] in TEMPORAL + ("true", "false", "not", "and", "or", "implies", "same")


def in_order(formula, found):
    """The different subformulas: those of the first part, of the second part, the whole."""
    if is_formula(formula):
        for part in formula[1:]:
            in_order(part, found)
    if formula not in found:
        found.append(formula)
    return found


class ByHand(unittest.TestCase):
    def test_fields(self):
        triples = [("fact", 0, -1), ("next", 0, -1), ("true", -1, -1), ("and", 1, 2)]
        rows = Rows([X1], triples)
        self.assertEqual((rows.facts, rows.rows, rows.temporal), ([X1], triples, [1]))
        self.assertEqual(Rows(facts=[], rows=[("true", -1, -1)]).temporal, [])

    def test_every_other_word_is_temporal(self):
        plain = [("true", -1, -1), ("false", -1, -1), ("fact", 0, -1), ("not", 0, -1),
                 ("and", 0, 1), ("or", 0, 1), ("implies", 0, 1), ("same", 0, 1)]
        temporal = [(word, 0, 1) for word in TEMPORAL]
        branching = [(word, 0, -1) for word in ("ex", "ax", "ef", "af", "eg", "ag")]
        branching += [("eu", 0, 1), ("au", 0, 1)]
        rows = Rows([X1], plain + temporal + branching)
        self.assertEqual(rows.temporal, list(range(8, 23)))

    def test_a_row_that_occurs_twice(self):
        rows = Rows([X1, X1], [("fact", 0, -1), ("eventually", 0, -1), ("fact", 1, -1),
                               ("eventually", 0, -1), ("or", 1, 3), ("not", 2, -1)])
        self.assertEqual(rows.temporal, [1, 3])
        self.assertEqual(len(rows.rows), 6)
        self.assertEqual(formula_of(rows, 4), ("or", ("eventually", X1), ("eventually", X1)))
        self.assertEqual(formula_of(rows, 5), ("not", X1))

    def test_lists_that_are_changed_later_have_no_effect(self):
        facts, triples = [X1], [("fact", 0, -1), ("next", 0, -1)]
        rows = Rows(facts, triples)
        facts.append(X2)
        facts[0] = X2
        triples.append(("next", 1, -1))
        triples[1] = ("not", 0, -1)
        self.assertEqual(rows.facts, [X1])
        self.assertEqual(rows.rows, [("fact", 0, -1), ("next", 0, -1)])
        self.assertEqual(rows.temporal, [1])
        self.assertEqual(formula_of(rows, 1), ("next", X1))

    def test_formula_of_each_row(self):
        rows = number_rows(read_formula("G (x = 1 -> F x = 2) M false"))
        self.assertEqual([formula_of(rows, k) for k in range(len(rows.rows))], [
            X1, X2, ("eventually", X2), ("implies", X1, ("eventually", X2)),
            ("always", ("implies", X1, ("eventually", X2))), ("false",),
            ("strong", ("always", ("implies", X1, ("eventually", X2))), ("false",)),
        ])

    def test_formula_of_rows_of_branching_formulas(self):
        rows = Rows([X1], [("fact", 0, -1), ("ef", 0, -1), ("au", 1, 0)])
        self.assertEqual(formula_of(rows, 2), ("au", ("ef", X1), X1))

    def test_formula_of_changes_nothing(self):
        rows = number_rows(read_formula("x = 1 U x = 2"))
        formula_of(rows, 2)
        self.assertEqual(rows.rows, [("fact", 0, -1), ("fact", 1, -1), ("until", 0, 1)])

import unittest
from copy import deepcopy
from itertools import product
from random import Random

from lassoproof.checking.truths import complete, promised, settled
from lassoproof.formulas.rows import Rows, formula_of, number_rows
from lassoproof.language.reader import read_formula
from lassoproof.language.values import truth
from tests.runs import meaning
from tests.trees import random_formula

P, Q, R = [("equal", ("name", "x"), ("number", k)) for k in (0, 1, 2)]
BOTH = (False, True)
FACTS = [("fact", 0, -1), ("fact", 1, -1)]


class Complete(unittest.TestCase):
    def last(self, row, f, g, p=None):
        rows = Rows([P, Q], FACTS + [row])
        found = complete(rows, [f, g], [] if p is None else [p])
        self.assertEqual(found[:2], [f, g])
        self.assertIsInstance(found[2], bool)
        return found[2]

    def test_temporal_words(self):
        for f, g, p in product(BOTH, repeat=3):
            for word, right, wanted in [
                ("next", -1, p), ("eventually", -1, f or p), ("always", -1, f and p),
                ("until", 1, g or (f and p)), ("unless", 1, g or (f and p)),
                ("release", 1, g and (f or p)), ("strong", 1, g and (f or p)),
            ]:
                self.assertIs(self.last((word, 0, right), f, g, p), wanted, word)

    def test_the_other_words(self):
        for f, g in product(BOTH, repeat=2):
            for row, wanted in [
                (("true", -1, -1), True), (("false", -1, -1), False), (("fact", 1, -1), g),
                (("not", 0, -1), not f), (("and", 0, 1), f and g), (("or", 0, 1), f or g),
                (("implies", 0, 1), g or not f), (("same", 0, 1), f == g),
                (("implies", 1, 0), f or not g), (("and", 0, 0), f),
            ]:
                self.assertIs(self.last(row, f, g), wanted, row)

    def test_promises_stand_in_the_order_of_the_temporal_rows(self):
        rows = number_rows(read_formula("X x = 0 and F x = 1 or G X x = 0"))
        self.assertEqual([rows.rows[k][0] for k in rows.temporal], ["next", "eventually", "always"])
        first, second, third = rows.temporal
        for promises in product(BOTH, repeat=3):
            found = complete(rows, [True, False], promises)
            self.assertEqual(found[first], promises[0])
            self.assertEqual(found[second], promises[1])
            self.assertEqual(found[third], promises[0] and promises[2])

    def test_promises_are_a_list_or_a_tuple(self):
        rows = number_rows(read_formula("X x = 0"))
        self.assertEqual(complete(rows, [False], [True]), [False, True])
        self.assertEqual(complete(rows, [False], (True,)), [False, True])

    def test_rows_that_occur_twice(self):
        rows = Rows([P], [("fact", 0, -1), ("next", 0, -1), ("next", 0, -1), ("same", 1, 2)])
        self.assertEqual(complete(rows, [True], (True, False)), [True, True, False, False])
        self.assertEqual(complete(rows, [True], (False, False)), [True, False, False, True])

    def test_no_facts(self):
        self.assertEqual(complete(Rows([], [("true", -1, -1)]), [], ()), [True])
        rows = Rows([], [("false", -1, -1), ("eventually", 0, -1)])
        self.assertEqual(complete(rows, [], (True,)), [False, True])

    def test_nothing_is_changed_and_the_list_is_new(self):
        rows = number_rows(read_formula("X x = 0 or x = 1"))
        facts, promises = [True, False], [True]
        before = deepcopy((facts, promises, rows.facts, rows.rows, rows.temporal))
        complete(rows, facts, promises).clear()
        self.assertEqual((facts, promises, rows.facts, rows.rows, rows.temporal), before)
        self.assertEqual(complete(rows, facts, promises), [True, True, False, True])


class Promised(unittest.TestCase):
    def test_next_asks_its_part_and_the_others_themselves(self):
        for row in [("eventually", 0, -1), ("always", 0, -1), ("until", 0, 1), ("release", 0, 1),
                    ("unless", 0, 1), ("strong", 0, 1)]:
            rows = Rows([P, Q], FACTS + [row])
            for truths in product(BOTH, repeat=3):
                self.assertEqual(promised(rows, list(truths)), truths[2:])
        rows = Rows([P, Q], FACTS + [("next", 1, -1)])
        for truths in product(BOTH, repeat=3):
            self.assertEqual(promised(rows, list(truths)), truths[1:2])

    def test_a_tuple_in_the_order_of_the_rows(self):
        rows = number_rows(read_formula("F x = 1 and X x = 0"))
        self.assertEqual([row[0] for row in rows.rows],
                         ["fact", "eventually", "fact", "next", "and"])
        found = promised(rows, [False, True, False, True, True])
        self.assertEqual(found, (True, False))
        self.assertIsInstance(found, tuple)

    def test_no_temporal_rows(self):
        self.assertEqual(promised(number_rows(P), [True]), ())

    def test_truths_are_not_changed(self):
        truths = [True, False]
        promised(number_rows(("next", P)), truths)
        self.assertEqual(truths, [True, False])


class OnRuns(unittest.TestCase):
    def test_the_truths_of_a_run(self):
        random = Random(73)
        for _ in range(150):
            formula = random_formula(random, 4, lambda: random.choice([P, Q, R]))
            rows = number_rows(formula)
            stem, loop = [[(random.randrange(3),) for _ in range(length)]
                          for length in (random.randrange(3), 1 + random.randrange(3))]
            count = len(stem) + len(loop)
            truths = [[meaning(formula_of(rows, number), ["x"], stem, loop, place)
                       for number in range(len(rows.rows))] for place in range(count)]
            for place, state in enumerate(stem + loop):
                ahead = place + 1 if place + 1 < count else len(stem)
                promises = promised(rows, truths[ahead])
                facts = [truth(fact, {"x": state[0]}) for fact in rows.facts]
                self.assertEqual(complete(rows, facts, promises), truths[place], formula)


class Settled(unittest.TestCase):
    def check(self, word, wanted):
        """Wanted is a function of the truths of the two parts and of the row."""
        right = -1 if word in ("eventually", "always") else 1
        rows = Rows([P, Q], FACTS + [(word, 0, right)])
        for f, g, held in product(BOTH, repeat=3):
            self.assertIs(settled(rows, 2, [f, g, held]), wanted(f, g, held), (word, f, g, held))

    def test_rows_with_a_goal(self):
        self.check("eventually", lambda f, g, held: not held or f)
        self.check("until", lambda f, g, held: not held or g)
        self.check("strong", lambda f, g, held: not held or (f and g))

    def test_rows_with_a_breach(self):
        self.check("always", lambda f, g, held: held or not f)
        self.check("release", lambda f, g, held: held or not g)
        self.check("unless", lambda f, g, held: held or (not f and not g))

    def test_the_row_is_that_of_the_number(self):
        rows = number_rows(read_formula("F x = 0 and G x = 1"))
        self.assertEqual(rows.temporal, [1, 3])
        truths = [False, True, True, False, False]
        self.assertIs(settled(rows, 1, truths), False)
        self.assertIs(settled(rows, 3, truths), False)
        self.assertIs(settled(rows, 1, [True, True, True, False, False]), True)
        self.assertIs(settled(rows, 3, [False, True, False, False, False]), True)

    def test_rows_that_stand_behind_do_not_matter(self):
        for word in ("eventually", "always"):
            rows = Rows([P], [("fact", 0, -1), (word, 0, -1), ("not", 0, -1), ("not", 1, -1)])
            for f, held, third, last in product(BOTH, repeat=4):
                wanted = not held or f if word == "eventually" else held or not f
                self.assertIs(settled(rows, 1, [f, held, third, last]), wanted)

    def test_truths_are_not_changed(self):
        truths = [True, False]
        settled(number_rows(("always", P)), 1, truths)
        self.assertEqual(truths, [True, False])

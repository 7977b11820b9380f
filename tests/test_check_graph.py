import unittest
from copy import deepcopy
from itertools import product
from random import Random

from lassoproof.checking.search import check_graph
from lassoproof.checking.verdicts import Certificate, Verdict
from lassoproof.formulas.rows import Rows, number_rows
from tests.fairness import levels, random_conditions
from tests.faults import told
from tests.graphs import random_graph, random_list
from tests.judging import graph_is_refuted, judge_of_graph
from tests.trees import random_formula

P, Q = [("equal", ("name", f"v{k}"), ("number", 1)) for k in (0, 1)]
UNARY = ("next", "eventually", "always")
BINARY = ("until", "release", "unless", "strong")
NEVER, ALWAYS = Rows([], [("false", -1, -1)]), Rows([], [("true", -1, -1)])


def bits(*words):
    """The facts of nodes from texts such as "01"."""
    return [[letter == "1" for letter in word] for word in words]


def too_many(count):
    return ("TooManyPromises", {"count": count})


class Graphs(unittest.TestCase):
    def check(self, after, starts, facts, rows, justice=(), compassion=()):
        """The verdict, after a look whether it is right."""
        justice, compassion = list(justice), list(compassion)
        verdict = check_graph(after, starts, facts, rows, justice=justice, compassion=compassion)
        self.assertIsInstance(verdict, Verdict)
        question = (after, starts, facts, rows, justice, compassion)
        if verdict.holds is True:
            self.assertIsInstance(verdict.certificate, Certificate)
            self.assertEqual((verdict.stem, verdict.loop), (None, None))
            self.assertTrue(judge_of_graph(*question).accepts(verdict.certificate), question)
            self.assertLessEqual(levels(verdict.certificate.blocks), len(compassion) + 1)
            for _, promises in verdict.certificate.places:
                self.assertIsInstance(promises, tuple)
                self.assertTrue(all(isinstance(promise, bool) for promise in promises))
        else:
            self.assertIs(verdict.holds, False)
            self.assertIsNone(verdict.certificate)
            self.assertTrue(graph_is_refuted(*question, verdict.stem, verdict.loop), question)
            factor = len(justice) + len(rows.temporal) + len(compassion) + 2
            self.assertLessEqual(len(verdict.stem) + len(verdict.loop),
                                 len(after) * 2 ** len(rows.temporal) * factor)
        return verdict

    def holds(self, *question):
        return self.check(*question).holds


class Answers(Graphs):
    def test_no_starts(self):
        for rows in (NEVER, ALWAYS, number_rows(("eventually", P))):
            verdict = self.check([[0]], [], bits("00"), rows)
            self.assertEqual((verdict.certificate.places, verdict.certificate.blocks), ([], []))
        self.assertTrue(self.holds([], [], [], NEVER))

    def test_true_and_false(self):
        self.assertTrue(self.holds([[0]], [0], [[]], ALWAYS))
        verdict = self.check([[0]], [0], [[]], NEVER)
        self.assertEqual((verdict.stem, verdict.loop), ([], [0]))
        self.assertTrue(self.holds([[0]], [0], [[]], NEVER, [[]]))
        self.assertTrue(self.holds([[0]], [0], [[]], NEVER, [], [([0], [])]))

    def test_a_fact_looks_at_the_start_alone(self):
        after, facts = [[1], [0]], bits("1", "0")
        rows = number_rows(P)
        self.assertTrue(self.holds(after, [0], facts, rows))
        self.assertFalse(self.holds(after, [1], facts, rows))
        self.assertFalse(self.holds(after, [0, 1], facts, rows))
        self.assertTrue(self.holds(after, [1], facts, number_rows(("not", P))))

    def test_each_temporal_word(self):
        # Node 0 has neither fact, node 1 the first, node 2 the second, node 3 both.
        facts = bits("00", "10", "01", "11")
        wanted = {
            ("next", (1, 3)): True, ("next", (3, 1)): True, ("next", (3, 2)): False,
            ("eventually", (0, 1)): True, ("eventually", (0, 2)): False,
            ("always", (1, 3)): True, ("always", (3, 0)): False,
            ("until", (1, 2)): True, ("until", (1, 1)): False, ("until", (0, 2)): False,
            ("unless", (1, 2)): True, ("unless", (1, 1)): True, ("unless", (1, 0)): False,
            ("release", (2, 3)): True, ("release", (2, 2)): True, ("release", (2, 0)): False,
            ("strong", (2, 3)): True, ("strong", (2, 2)): False, ("strong", (2, 1)): False,
        }
        for (word, (first, second)), held in wanted.items():
            formula = (word, P) if word in UNARY else (word, P, Q)
            rows = number_rows(formula)
            if len(rows.facts) == 1:
                shown = [facts[k][:1] for k in (first, second)]
            else:
                shown = [facts[k] for k in (first, second)]
            self.assertIs(self.holds([[1], [1]], [0], shown, rows), held, (word, first, second))

    def test_a_choice_of_ways(self):
        after, facts = [[0, 1], [1]], bits("0", "1")
        rows = number_rows(("eventually", P))
        verdict = self.check(after, [0], facts, rows)
        self.assertEqual((set(verdict.stem), set(verdict.loop)), (set(), {0}))
        self.assertTrue(self.holds(after, [0], facts, rows, [[1]]))
        self.assertTrue(self.holds(after, [0], facts, rows, [], [([0], [1])]))
        self.assertFalse(self.holds(after, [0], facts, rows, [[0]]))
        self.assertTrue(self.holds(after, [0], facts, rows, [[0], [1]]))

    def test_starts_in_any_order_and_twice(self):
        after, facts, rows = [[1], [2], [2]], bits("0", "0", "1"), number_rows(("next", P))
        for starts in ([1, 2], [2, 1], [1, 2, 1], [2, 2, 1, 1]):
            verdict = self.check(after, starts, facts, rows)
            self.assertTrue(verdict.holds)
        for starts in ([0, 1], [1, 0], [1, 0, 0, 2, 1]):
            verdict = self.check(after, starts, facts, rows)
            self.assertEqual((verdict.stem + verdict.loop)[0], 0)

    def test_nodes_that_cannot_be_reached(self):
        after, facts = [[0], [0, 2], [2]], bits("1", "0", "0")
        self.assertTrue(self.holds(after, [0], facts, number_rows(("always", P))))
        self.assertFalse(self.holds(after, [1], facts, number_rows(("always", P))))

    def test_rows_made_by_hand(self):
        rows = Rows([P], [("fact", 0, -1), ("eventually", 0, -1), ("eventually", 0, -1),
                          ("same", 1, 2)])
        self.assertTrue(self.holds([[0, 1], [1]], [0], bits("0", "1"), rows))
        rows = Rows([P], [("fact", 0, -1), ("always", 0, -1), ("fact", 0, -1)])
        self.assertTrue(self.holds([[1], [1]], [0], bits("1", "0"), rows))
        rows = Rows([P], [("next", 0, -1)])
        rows = Rows([P], [("fact", 0, -1), ("next", 0, -1), ("next", 1, -1), ("next", 1, -1),
                          ("implies", 2, 3)])
        self.assertTrue(self.holds([[0, 1], [1]], [0], bits("0", "1"), rows))

    def test_several_conditions(self):
        ring = [[1, 3], [2], [3], [0]]
        facts = bits("0", "0", "1", "0")
        rows = number_rows(("always", ("eventually", P)))
        self.assertFalse(self.holds(ring, [0], facts, rows, [[0], [3]]))
        self.assertTrue(self.holds(ring, [0], facts, rows, [[0], [3], [1]]))
        self.assertTrue(self.holds(ring, [0], facts, rows, [[3]], [([0], [1])]))
        self.assertTrue(self.holds(ring, [0], facts, rows, [], [([1], [0]), ([3], [2])]))
        self.assertFalse(self.holds(ring, [0], facts, rows, [], [([1], [0]), ([2], [1])]))
        nested = [([0], []), ([1], []), ([2, 3], [])]
        self.assertTrue(self.holds([[0, 1, 2, 3]] * 4, [0], facts, rows, [], nested))


class RandomGraphs(Graphs):
    def ask(self, random, formula, count):
        after = random_graph(random, count, random.choice([0.3, 0.5]))
        after = [following or [random.randrange(count)] for following in after]
        rows = number_rows(formula)
        facts = [[random.random() < 0.5 for _ in rows.facts] for _ in range(count)]
        justice, compassion = random_conditions(random, count)
        starts = random_list(random, list(range(count)))
        return self.check(after, starts, facts, rows, justice, compassion)

    def test_random_formulas(self):
        random = Random(91)
        found = {True: 0, False: 0}
        for _ in range(700):
            formula = random_formula(random, 4, lambda: random.choice([P, Q]))
            if len(number_rows(formula).temporal) <= 4:
                found[self.ask(random, formula, 1 + random.randrange(4)).holds] += 1
        self.assertGreater(min(found.values()), 100)

    def test_random_rows_made_by_hand(self):
        random = Random(97)
        for _ in range(300):
            triples = [("fact", 0, -1), ("fact", 1, -1)]
            for _ in range(random.randrange(1, 5)):
                word = random.choice(UNARY + BINARY + ("not", "and", "same", "true"))
                parts = [random.randrange(len(triples)) for _ in range(2)]
                if word == "true":
                    parts = [-1, -1]
                elif word in UNARY + ("not",):
                    parts[1] = -1
                triples += [(word, *parts)] * random.choice([1, 1, 2])
            rows = Rows([P, Q], triples)
            if len(rows.temporal) <= 4:
                count = 1 + random.randrange(4)
                after = [following or [0] for following in random_graph(random, count, 0.4)]
                facts = [[random.random() < 0.5, random.random() < 0.5] for _ in range(count)]
                justice, compassion = random_conditions(random, count)
                self.check(after, [0, count - 1], facts, rows, justice, compassion)

    def test_every_word_and_its_negation(self):
        random = Random(92)
        for word in UNARY + BINARY:
            formula = (word, P) if word in UNARY else (word, P, Q)
            for wrapped in (formula, ("not", formula), ("always", formula),
                            ("eventually", ("not", formula))):
                found = [self.ask(random, wrapped, 1 + random.randrange(4)).holds
                         for _ in range(60)]
                self.assertEqual(set(found), {True, False}, wrapped)

    def test_a_formula_or_its_negation_fails_if_there_is_a_fair_run(self):
        after = [[0, 1], [1, 2], [0]]
        facts = bits("00", "10", "01")
        for word in BINARY:
            for part in (P, Q, ("not", P)):
                formula = (word, part, Q)
                rows, turned = number_rows(formula), number_rows(("not", formula))
                shown = [facts[k] if rows.facts == [P, Q] else facts[k][1:] for k in range(3)]
                for justice in ([], [[1]], [[0], [2]]):
                    both = [self.holds(after, [0], shown, rows, justice),
                            self.holds(after, [0], shown, turned, justice)]
                    self.assertIn(False, both)
                self.assertTrue(self.holds(after, [0], shown, rows, [[]]))
                self.assertTrue(self.holds(after, [0], shown, turned, [[]]))

    def test_all_graphs_with_two_nodes(self):
        lists = [[0], [1], [0, 1]]
        rows = number_rows(("always", ("implies", P, ("eventually", ("not", P)))))
        for after in product(lists, repeat=2):
            for starts in ([0], [1], [0, 1]):
                for justice in ([], [[0]], [[1]], [[0], [1]]):
                    for compassion in ([], [([0], [1])], [([0], []), ([1], [0])]):
                        self.check(list(after), starts, bits("1", "0"), rows, justice, compassion)


class Bounds(Graphs):
    def test_twelve_and_thirteen_temporal_rows(self):
        for count in (12, 13, 20):
            rows = Rows([P], [("fact", 0, -1)] + [("next", k, -1) for k in range(count)])

            def ask():
                return check_graph([[0]], [0], [[True]], rows, justice=[], compassion=[])

            if count == 12:
                self.assertIs(ask().holds, True)
                self.assertGreater(len(ask().certificate.places), 2 ** 11)
            else:
                self.assertEqual(told(ask), too_many(count))

    def test_the_error_comes_for_an_empty_graph_too(self):
        rows = Rows([P], [("fact", 0, -1)] + [("always", 0, -1)] * 13)
        self.assertEqual(told(lambda: check_graph([], [], [], rows, justice=[], compassion=[])),
                         too_many(13))
        rows = Rows([P], [("fact", 0, -1)] + [("not", 0, -1)] * 13)
        self.assertTrue(self.holds([], [], [], rows))

    def test_a_large_graph(self):
        count = 2000
        ring = [[(node + 1) % count] for node in range(count)]
        facts = [[node == 1234] for node in range(count)]
        rows = number_rows(("always", ("eventually", P)))

        def ask(rows, **more):
            return check_graph(ring, [7], facts, rows, **more)

        verdict = ask(rows, justice=[], compassion=[])
        self.assertEqual((verdict.holds, len(verdict.certificate.blocks) > 0), (True, True))
        pairs = [([node], [node + 1]) for node in range(40)]
        verdict = ask(number_rows(("eventually", ("always", P))), justice=[[5]], compassion=pairs)
        self.assertFalse(verdict.holds)
        self.assertEqual(set(verdict.loop), set(range(count)))
        self.assertLessEqual(len(verdict.stem) + len(verdict.loop), count * 4 * (1 + 2 + 40 + 2))

    def test_forty_pairs_one_within_the_other(self):
        after = [list(range(41)) for _ in range(41)]
        pairs = [([node], []) for node in range(40)]
        facts = [[node == 40] for node in range(41)]
        rows = number_rows(("eventually", P))
        verdict = check_graph(after, [0], facts, rows, justice=[], compassion=pairs)
        self.assertTrue(verdict.holds)
        self.assertLessEqual(levels(verdict.certificate.blocks), 41)
        self.assertEqual(check_graph(after, [0], facts, number_rows(("not", P)), justice=[],
                                     compassion=pairs).holds, True)


class Arguments(unittest.TestCase):
    def test_arguments_are_not_changed_and_lists_are_new(self):
        rows = number_rows(("until", P, Q))
        kept = (rows.facts[:], rows.rows[:], rows.temporal[:])
        for justice, compassion in [([[1, 0, 1]], [([0], [1, 1])]), ([[]], [])]:
            arguments = ([[1], [0, 1]], [1, 0, 1], bits("10", "00"))
            before = deepcopy((arguments, justice, compassion))

            def ask():
                return check_graph(*arguments, rows, justice=justice, compassion=compassion)

            verdict = ask()
            if verdict.holds:
                first = (verdict.certificate.places[:], deepcopy(verdict.certificate.blocks))
                verdict.certificate.places.clear()
                verdict.certificate.blocks[0][2].append(9)
                again = ask().certificate
                self.assertEqual((again.places, again.blocks), first)
            else:
                first = (verdict.stem[:], verdict.loop[:])
                verdict.stem.append(7)
                verdict.loop.clear()
                self.assertEqual((ask().stem, ask().loop), first)
            self.assertEqual((arguments, justice, compassion), before)
            self.assertEqual((rows.facts, rows.rows, rows.temporal), kept)

    def test_conditions_are_passed_by_keyword(self):
        with self.assertRaises(TypeError):
            check_graph([], [], [], ALWAYS, [], [])

import unittest
from copy import deepcopy
from itertools import product
from random import Random

from lassoproof.branching.answers import Answer, answer, answer_system
from lassoproof.branching.checker import accepts_answer
from lassoproof.branching.formulas import number_branches
from lassoproof.formulas.rows import Rows, formula_of
from lassoproof.language.reader import read_condition
from lassoproof.language.values import names_in
from lassoproof.systems.reader import read_system
from lassoproof.systems.space import explore
from tests.branches import WORDS_OF_ONE, WORDS_OF_TWO, answers, random_branches
from tests.faults import told, unknown
from tests.graphs import random_graph
from tests.systems import COUNTER, LOCK, STAY, random_atom, random_system

P, Q = [("equal", ("name", "x"), ("number", k)) for k in (0, 1)]
FACTS = [("fact", 0, -1), ("fact", 1, -1)]
EIGHT = WORDS_OF_ONE + WORDS_OF_TWO


def proper_graph(random, count):
    """A random graph with a successor for every node."""
    after = random_graph(random, count, random.choice([0.2, 0.35, 0.5]))
    return [following or [random.randrange(count)] for following in after]


def bits(*words):
    return [[letter == "1" for letter in word] for word in words]


class Numbering(unittest.TestCase):
    def test_rows(self):
        rows = number_branches(("or", ("ef", P), ("ag", ("ef", P))))
        self.assertIsInstance(rows, Rows)
        self.assertEqual(rows.facts, [P])
        self.assertEqual(rows.rows, [("fact", 0, -1), ("ef", 0, -1), ("ag", 1, -1), ("or", 1, 2)])
        self.assertEqual(rows.temporal, [1, 2])

    def test_each_word(self):
        for word in WORDS_OF_ONE:
            rows = number_branches((word, P))
            self.assertEqual((rows.rows, rows.temporal), ([FACTS[0], (word, 0, -1)], [1]))
        for word in WORDS_OF_TWO:
            rows = number_branches((word, Q, P))
            self.assertEqual((rows.facts, rows.temporal), ([Q, P], [2]))
            self.assertEqual(rows.rows, FACTS + [(word, 0, 1)])
        for word in ("not", "and", "or", "implies", "same"):
            formula = (word, P) if word == "not" else (word, P, P)
            self.assertEqual(number_branches(formula).temporal, [])
        self.assertEqual(number_branches(("true",)).rows, [("true", -1, -1)])
        self.assertEqual(number_branches(("false",)).rows, [("false", -1, -1)])

    def test_equal_comparisons_and_rows(self):
        formula = ("and", ("eu", P, ("ax", Q)), ("implies", ("ax", Q), ("eu", P, ("ax", Q))))
        rows = number_branches(formula)
        self.assertEqual(rows.facts, [P, Q])
        self.assertEqual(rows.rows, FACTS + [("ax", 1, -1), ("eu", 0, 2), ("implies", 2, 3),
                                             ("and", 3, 4)])
        self.assertEqual(rows.temporal, [2, 3])

    def test_the_rows_give_the_formula_again(self):
        random = Random(101)
        for _ in range(200):
            formula = random_branches(random, 5, [P, Q])
            rows = number_branches(formula)
            self.assertEqual(formula_of(rows, len(rows.rows) - 1), formula)
            self.assertEqual(rows.temporal, [k for k, row in enumerate(rows.rows)
                                             if row[0] in EIGHT])

    def test_names(self):
        first = read_condition("b > a")
        formula = ("eu", ("ax", first), ("ef", read_condition("c = b + d")))
        self.assertEqual(names_in(formula), ["a", "b", "c", "d"])


class Answers(unittest.TestCase):
    def find(self, after, facts, rows):
        """The answer, after a look whether it is right."""
        found = answer(after, facts, rows)
        self.assertIsInstance(found, Answer)
        truths, ranks = answers(after, facts, rows)
        self.assertEqual((found.truths, found.ranks), (truths, ranks), (after, facts, rows.rows))
        self.assertTrue(all(isinstance(truth, bool) for row in found.truths for truth in row))
        self.assertIs(accepts_answer(after, facts, rows, found), True)
        return found

    def last(self, formula, after, facts):
        found = self.find(after, facts, number_branches(formula))
        return found.truths[-1], found.ranks[-1]

    def test_next_nodes(self):
        after, facts = [[0, 1], [1]], bits("0", "1")
        self.assertEqual(self.last(("ex", P), after, facts), ([True, True], [-1, -1]))
        self.assertEqual(self.last(("ax", P), after, facts), ([False, True], [-1, -1]))

    def test_a_chain(self):
        after, facts = [[1], [2], [3], [3]], bits("0", "0", "1", "0")
        self.assertEqual(self.last(("ef", P), after, facts),
                         ([True, True, True, False], [2, 1, 0, -1]))
        self.assertEqual(self.last(("af", P), after, facts),
                         ([True, True, True, False], [2, 1, 0, -1]))
        self.assertEqual(self.last(("eg", ("not", P)), after, facts),
                         ([False, False, False, True], [2, 1, 0, -1]))
        self.assertEqual(self.last(("ag", ("not", P)), after, facts),
                         ([False, False, False, True], [2, 1, 0, -1]))

    def test_some_paths_and_all_paths(self):
        # Node 0 may stay or go to 1 or to 2; 1 goes to 2, which stays and has the fact.
        after, facts = [[0, 1, 2], [2], [2]], bits("0", "0", "1")
        self.assertEqual(self.last(("ef", P), after, facts), ([True] * 3, [1, 1, 0]))
        self.assertEqual(self.last(("af", P), after, facts), ([False, True, True], [-1, 1, 0]))
        self.assertEqual(self.last(("eg", ("not", P)), after, facts),
                         ([True, False, False], [-1, 1, 0]))
        self.assertEqual(self.last(("ag", ("not", P)), after, facts), ([False] * 3, [1, 1, 0]))
        after[0] = [1, 2]
        self.assertEqual(self.last(("ef", P), after, facts), ([True] * 3, [1, 1, 0]))
        self.assertEqual(self.last(("af", P), after, facts), ([True] * 3, [2, 1, 0]))
        self.assertEqual(self.last(("eg", ("not", P)), after, facts), ([False] * 3, [2, 1, 0]))

    def test_until(self):
        after = [[1], [2, 3], [2], [3]]
        facts = bits("10", "10", "01", "00")
        self.assertEqual(self.last(("eu", P, Q), after, facts),
                         ([True, True, True, False], [2, 1, 0, -1]))
        self.assertEqual(self.last(("au", P, Q), after, facts),
                         ([False, False, True, False], [-1, -1, 0, -1]))
        after[1] = [2]
        self.assertEqual(self.last(("au", P, Q), after, facts),
                         ([True, True, True, False], [2, 1, 0, -1]))
        facts = bits("10", "00", "01", "01")
        for word in WORDS_OF_TWO:
            self.assertEqual(self.last((word, P, Q), after, facts),
                             ([False, False, True, True], [-1, -1, 0, 0]))

    def test_ranks_of_other_rows(self):
        after, facts = [[1], [0]], bits("1", "0")
        for formula in [P, ("not", P), ("and", P, P), ("or", P, P), ("implies", P, P),
                        ("same", P, P), ("ex", P), ("ax", P), ("true",), ("false",)]:
            self.assertEqual(self.last(formula, after, facts)[1], [-1, -1])

    def test_no_nodes(self):
        for word in EIGHT:
            formula = (word, P) if word in WORDS_OF_ONE else (word, P, Q)
            rows = number_branches(formula)
            found = self.find([], [], rows)
            self.assertEqual(found.truths, [[] for _ in rows.rows])
            self.assertEqual(found.ranks, [[] for _ in rows.rows])

    def test_rows_made_by_hand(self):
        rows = Rows([P], [("fact", 0, -1), ("ef", 0, -1), ("ef", 0, -1), ("fact", 0, -1),
                          ("au", 3, 1)])
        self.find([[1], [1]], bits("0", "1"), rows)
        self.find([[1], [1]], bits("0", "0"), rows)

    def test_all_small_graphs(self):
        lists = [[0], [1], [0, 1]]
        everything = Rows([P, Q], FACTS + [(word, 0, -1) for word in WORDS_OF_ONE]
                          + [(word, 0, 1) for word in WORDS_OF_TWO])
        for after in product(lists, repeat=2):
            for facts in product(product((False, True), repeat=2), repeat=2):
                self.find(list(after), [list(row) for row in facts], everything)

    def test_random_graphs(self):
        random = Random(102)
        for _ in range(300):
            count = 1 + random.randrange(5)
            rows = number_branches(random_branches(random, 4, [P, Q]))
            facts = [[random.random() < 0.5 for _ in rows.facts] for _ in range(count)]
            self.find(proper_graph(random, count), facts, rows)

    def test_large_graphs(self):
        count = 2000
        after = [sorted({(node + 1) % count, node // 2}) for node in range(count)]
        facts = [[node == 5, node != 77] for node in range(count)]
        rows = Rows([P, Q], FACTS + [(word, k, -1) for word in WORDS_OF_ONE for k in (0, 1)]
                    + [(word, 1, 0) for word in WORDS_OF_TWO])
        found = answer(after, facts, rows)
        self.assertTrue(accepts_answer(after, facts, rows, found))
        ring = [[(node + 1) % count] for node in range(count)]
        found = answer(ring, facts, rows)
        self.assertTrue(accepts_answer(ring, facts, rows, found))
        self.assertEqual(max(map(max, found.ranks)), count - 1)

    def test_arguments_are_not_changed_and_lists_are_new(self):
        after, facts, rows = [[1], [0, 1]], bits("10", "00"), number_branches(("eu", P, ("ag", Q)))
        kept = deepcopy((after, facts, rows.facts, rows.rows, rows.temporal))
        first = answer(after, facts, rows)
        copy = deepcopy((first.truths, first.ranks))
        for lists in (first.truths, first.ranks):
            lists[0].clear()
            lists.pop()
        second = answer(after, facts, rows)
        self.assertEqual((second.truths, second.ranks), copy)
        self.assertEqual((after, facts, rows.facts, rows.rows, rows.temporal), kept)

    def test_an_object_copies_its_lists(self):
        truths, ranks = [[True], [False]], [[0], [-1]]
        found = Answer(truths, ranks)
        truths[0][0] = False
        truths.append([True])
        ranks[1].append(5)
        self.assertEqual((found.truths, found.ranks), ([[True], [False]], [[0], [-1]]))
        found = Answer(truths=[], ranks=[])
        self.assertEqual((found.truths, found.ranks), ([], []))


class Checker(unittest.TestCase):
    def right(self, after, facts, rows, found):
        """Whether an answer is accepted, which has to be so for the only right one alone."""
        held = accepts_answer(after, facts, rows, found)
        self.assertIs(held, answers(after, facts, rows) == (found.truths, found.ranks))
        return held

    def test_answers_that_are_spoilt_at_one_place(self):
        random = Random(103)
        for _ in range(120):
            count = 1 + random.randrange(4)
            after = proper_graph(random, count)
            rows = number_branches(random_branches(random, 4, [P, Q]))
            facts = [[random.random() < 0.5 for _ in rows.facts] for _ in range(count)]
            for number in range(len(rows.rows)):
                for node in range(count):
                    spoilt = answer(after, facts, rows)
                    spoilt.truths[number][node] = not spoilt.truths[number][node]
                    self.assertFalse(self.right(after, facts, rows, spoilt))
                    for change in (-1, 1, count):
                        spoilt = answer(after, facts, rows)
                        spoilt.ranks[number][node] += change
                        self.assertFalse(self.right(after, facts, rows, spoilt))

    def test_answers_that_agree_with_themselves(self):
        # A loop that claims to reach what it never reaches, with any ranks.
        after, facts, rows = [[1], [0]], bits("00", "00"), number_branches(("ef", P))
        for word in ("ef", "af"):
            rows = number_branches((word, P))
            for ranks in product(range(-3, 4), repeat=2):
                found = Answer([[False, False], [True, True]], [[-1, -1], list(ranks)])
                self.assertFalse(self.right(after, facts[:2], rows, found))
        for word in ("ag", "eg"):
            rows = number_branches((word, P))
            for ranks in product(range(-3, 4), repeat=2):
                found = Answer([[True, True], [False, False]], [[-1, -1], list(ranks)])
                self.assertFalse(self.right(after, bits("1", "1"), rows, found))

    def test_all_claims_about_small_graphs(self):
        for word in EIGHT:
            formula = (word, P) if word in WORDS_OF_ONE else (word, P, Q)
            rows = number_branches(formula)
            before = [[True, False], [False, False]][:len(rows.facts)]
            facts = [[row[node] for row in before] for node in range(2)]
            for after in ([[0, 1], [0]], [[1], [1]], [[0], [0, 1]]):
                accepted = 0
                for truths in product((False, True), repeat=2):
                    for ranks in product((-1, 0, 1, 2), repeat=2):
                        found = Answer(before + [list(truths)],
                                       [[-1, -1]] * len(before) + [list(ranks)])
                        accepted += self.right(after, facts, rows, found)
                self.assertEqual(accepted, 1)

    def test_lists_of_other_lengths(self):
        after, facts, rows = [[1], [0, 1]], bits("10", "01"), number_branches(("eu", P, Q))

        def changed(change):
            found = answer(after, facts, rows)
            change(found)
            return found

        self.assertTrue(accepts_answer(after, facts, rows, changed(lambda found: None)))
        for change in [
            lambda found: found.truths.pop(), lambda found: found.ranks.pop(),
            lambda found: found.truths.append([True, True]),
            lambda found: found.ranks.append([-1, -1]),
            lambda found: found.truths[0].pop(), lambda found: found.ranks[2].pop(),
            lambda found: found.truths[1].append(True), lambda found: found.ranks[0].append(-1),
            lambda found: found.truths.clear(), lambda found: found.ranks.clear(),
            lambda found: found.ranks[1].clear(), lambda found: found.truths.insert(0, []),
        ]:
            self.assertIs(accepts_answer(after, facts, rows, changed(change)), False)
        self.assertIs(accepts_answer([], [], rows, Answer([], [])), False)
        self.assertIs(accepts_answer([], [], rows, Answer([[], [], []], [[], [], []])), True)
        self.assertIs(accepts_answer([], [], rows, Answer([[], [], []], [[], []])), False)

    def test_answers_of_other_questions(self):
        after, facts = [[0, 1], [1]], bits("0", "1")
        found = answer(after, facts, number_branches(("ef", P)))
        self.assertFalse(accepts_answer(after, facts, number_branches(("af", P)), found))
        self.assertFalse(accepts_answer([[0], [1]], facts, number_branches(("ef", P)), found))
        self.assertFalse(accepts_answer(after, bits("1", "1"), number_branches(("ef", P)), found))

    def test_arguments_are_not_changed(self):
        after, facts, rows = [[1], [0, 1]], bits("10", "01"), number_branches(("au", P, Q))
        found = answer(after, facts, rows)
        before = deepcopy((after, facts, rows.rows, found.truths, found.ranks))
        accepts_answer(after, facts, rows, found)
        self.assertEqual((after, facts, rows.rows, found.truths, found.ranks), before)


class Systems(unittest.TestCase):
    def test_a_counter(self):
        system = read_system(COUNTER + STAY)
        last, first = read_condition("x = 2"), read_condition("x = 0")
        for formula, wanted in [
            (("ef", last), True), (("af", last), False), (("ag", ("ef", last)), True),
            (("eg", first), True), (("ag", first), False), (("ex", last), False),
            (("ex", ("ex", last)), True), (("ax", first), False), (("true",), True),
            (("false",), False), (first, True), (("not", first), False),
            (("eu", ("below", ("name", "x"), ("number", 2)), last), True),
            (("au", ("below", ("name", "x"), ("number", 2)), last), False),
            (("same", ("af", last), ("not", ("eg", ("not", last)))), True),
        ]:
            self.assertIs(answer_system(system, formula), wanted, formula)

    def test_fairness_does_not_matter(self):
        last = read_condition("x = 2")
        for fairness in ("\njustice x = 2", "\njustice false", "\ncompassion true : x = 2"):
            system = read_system(COUNTER + STAY + fairness)
            self.assertIs(answer_system(system, ("af", last)), False)
            self.assertIs(answer_system(system, ("ef", last)), True)

    def test_all_initial_states(self):
        system = read_system("var x in 0..2 start 0..1")
        self.assertIs(answer_system(system, read_condition("x = 0")), False)
        self.assertIs(answer_system(system, ("ag", read_condition("x < 2"))), True)
        self.assertIs(answer_system(system, ("or", ("ag", P), ("ag", Q))), True)
        self.assertIs(answer_system(read_system(""), ("eg", ("true",))), True)
        self.assertIs(answer_system(read_system(""), ("ef", ("false",))), False)

    def test_a_lock(self):
        system = read_system(LOCK)
        both = read_condition("a = 2 and b = 2")
        self.assertIs(answer_system(system, ("ag", ("not", both))), True)
        self.assertIs(answer_system(system, ("ef", both)), False)
        self.assertIs(answer_system(system, ("ag", ("ef", read_condition("a = 2")))), True)
        self.assertIs(answer_system(system, ("af", read_condition("a = 2"))), False)

    def test_random_systems(self):
        random = Random(104)
        for _ in range(150):
            system = random_system(random)
            atoms = [random_atom(random, system.names) for _ in range(2)]
            formula = random_branches(random, 4, atoms)
            space = explore(system)
            rows = number_branches(formula)
            facts = [[system.truth(fact, state) for fact in rows.facts] for state in space.states]
            truths, _ = answers(space.after, facts, rows)
            wanted = all(truths[-1][start] for start in space.starts)
            self.assertIs(answer_system(system, formula), wanted)

    def test_errors(self):
        system = read_system(COUNTER)
        for text, name in [("y = 1", "y"), ("b > a", "a"), ("x = 0 and z = y", "z")]:
            formula = ("ag", ("ef", read_condition(text)))
            self.assertEqual(told(answer_system, system, formula), unknown(name))
            self.assertEqual(told(lambda: answer_system(system, formula, limit=1)), unknown(name))
        formula = ("eu", ("true",), ("equal", ("name", "y"), ("name", "x")))
        self.assertEqual(told(answer_system, system, formula), unknown("y"))
        formula = ("ef", read_condition("x = 2"))
        for limit in (0, 1, 2):
            self.assertEqual(told(lambda: answer_system(system, formula, limit=limit)),
                             ("TooManyStates", {"limit": limit}))
        self.assertIs(answer_system(system, formula, limit=3), True)
        long = read_system(COUNTER.replace("2", "2000"))
        self.assertEqual(told(answer_system, long, formula), ("TooManyStates", {"limit": 2000}))
        with self.assertRaises(TypeError):
            answer_system(system, formula, 5)

    def test_many_rows_are_no_error(self):
        formula = ("true",)
        for k in range(20):
            formula = ("and", ("ef", ("upto", ("number", k), ("number", k))), formula)
        self.assertIs(answer_system(read_system(COUNTER), formula), True)

    def test_arguments_are_not_changed(self):
        system, formula = read_system(COUNTER), ("au", P, ("ex", Q))
        before = deepcopy((system.variables, system.processes, formula))
        answer_system(system, formula)
        self.assertEqual((system.variables, system.processes, formula), before)

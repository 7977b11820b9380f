import unittest
from copy import deepcopy
from random import Random

from lassoproof.fairness.cycles import is_fair
from tests.fairness import is_fair_part, random_conditions


class Cycles(unittest.TestCase):
    def fair(self, loop, justice=(), compassion=()):
        found = is_fair(loop, justice=list(justice), compassion=list(compassion))
        self.assertIsInstance(found, bool)
        return found

    def test_no_conditions(self):
        self.assertTrue(self.fair([0]))
        self.assertTrue(self.fair([3, 1, 3]))

    def test_justice(self):
        self.assertTrue(self.fair([0, 1], justice=[[1]]))
        self.assertTrue(self.fair([0, 1], justice=[[5, 1, 1, 2], [0]]))
        self.assertFalse(self.fair([0, 1], justice=[[2]]))
        self.assertFalse(self.fair([0, 1], justice=[[0, 1], [2], [1]]))
        self.assertFalse(self.fair([0, 1], justice=[[0], [1], [3]]))

    def test_an_empty_list_of_justice(self):
        self.assertFalse(self.fair([0, 1], justice=[[]]))
        self.assertFalse(self.fair([0, 1], justice=[[0, 1], []]))

    def test_compassion(self):
        self.assertTrue(self.fair([0, 1], compassion=[([0], [1])]))
        self.assertTrue(self.fair([0, 1], compassion=[([2], [3])]))
        self.assertTrue(self.fair([0, 1], compassion=[([2], [1])]))
        self.assertTrue(self.fair([0], compassion=[([0], [0])]))
        self.assertFalse(self.fair([0, 1], compassion=[([0], [2])]))
        self.assertFalse(self.fair([0, 1], compassion=[([2, 1, 1], [2])]))
        self.assertFalse(self.fair([0, 1], compassion=[([0], [1]), ([1], [2])]))

    def test_empty_lists_of_compassion(self):
        self.assertTrue(self.fair([0, 1], compassion=[([], [])]))
        self.assertTrue(self.fair([0, 1], compassion=[([], [0])]))
        self.assertFalse(self.fair([0, 1], compassion=[([0], [])]))
        self.assertTrue(self.fair([0, 1], compassion=[([2], [])]))

    def test_both(self):
        self.assertTrue(self.fair([0, 1], [[0]], [([0], [1])]))
        self.assertFalse(self.fair([0, 1], [[2]], [([0], [1])]))
        self.assertFalse(self.fair([0, 1], [[0]], [([0], [2])]))

    def test_random_conditions(self):
        random = Random(72)
        for _ in range(1500):
            loop = [random.randrange(6) for _ in range(1 + random.randrange(4))]
            justice, compassion = random_conditions(random, 6)
            self.assertIs(self.fair(loop, justice, compassion),
                          bool(is_fair_part(loop, justice, compassion)))

    def test_conditions_are_passed_by_keyword(self):
        with self.assertRaises(TypeError):
            is_fair([0], [], [])

    def test_arguments_are_not_changed(self):
        loop, justice, compassion = [1, 0, 1], [[1, 0], [0]], [([1, 1], [0]), ([], [])]
        before = deepcopy((loop, justice, compassion))
        is_fair(loop, justice=justice, compassion=compassion)
        self.assertEqual((loop, justice, compassion), before)

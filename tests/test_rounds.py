import unittest
from copy import deepcopy
from random import Random

from lassoproof.graphs.rounds import round_trip
from tests.graphs import is_closed_walk, knit_parts, random_graph, random_list


class Rounds(unittest.TestCase):
    def check(self, after, members, targets):
        found = round_trip(after, members, targets)
        self.assertTrue(is_closed_walk(after, found), (after, members, targets, found))
        self.assertLessEqual(set(found), set(members))
        self.assertLessEqual(set(targets), set(found))
        self.assertLessEqual(len(found), max(1, len(targets)) * len(members))
        return found

    def test_one_node(self):
        for targets in ([], [0], [0, 0]):
            self.assertEqual(self.check([[0]], [0], targets)[:1], [0])
        self.assertEqual(self.check([[0]], [0], []), [0])
        self.assertEqual(self.check([[1], [1]], [1], [1]), [1])

    def test_one_target(self):
        ring = [[1], [2], [0]]
        for targets in ([], [0], [1], [2]):
            self.assertEqual(sorted(self.check(ring, [0, 1, 2], targets)), [0, 1, 2])
        self.check([[0, 1], [0]], [0, 1], [0])
        self.assertEqual(sorted(self.check([[0, 1], [0]], [0, 1], [1])), [0, 1])

    def test_all_targets(self):
        ring = [[3], [0], [1], [2]]
        for targets in ([0, 1, 2, 3], [3, 2, 1, 0], [2, 0, 2, 0], [1, 1], [0, 0, 0]):
            self.check(ring, [0, 1, 2, 3], targets)

    def test_members_are_a_part_of_the_graph(self):
        after = [[1, 2], [0, 3], [0], [1]]
        self.assertEqual(sorted(self.check(after, [0, 2], [2])), [0, 2])
        self.assertEqual(sorted(self.check(after, [1, 3], [])), [1, 3])
        self.assertEqual(set(self.check(after, [0, 1, 3], [3, 0])), {0, 1, 3})

    def test_a_star_of_members(self):
        after = [[1, 2, 3, 4], [0], [0], [0], [0]]
        self.assertEqual(set(self.check(after, [0, 1, 2, 3, 4], [4, 2, 3, 1])), {0, 1, 2, 3, 4})
        self.assertEqual(len(self.check(after, [0, 1, 2, 3, 4], [3])), 2)

    def test_small_graphs(self):
        random = Random(63)
        for _ in range(250):
            count = 1 + random.randrange(6)
            after = random_graph(random, count, random.choice([0.3, 0.5]))
            for members in knit_parts(after, range(count)):
                self.check(after, members, random_list(random, members, 6))
                self.check(after, members, [])

    def test_large_graphs(self):
        members = list(range(2000))
        ring = [[(node + 1) % 2000] for node in members]
        self.check(ring, members, [])
        self.check(ring, members, members[::-1])
        full = [list(members) for _ in members]
        self.check(full, members, members)
        long = [[(node + 1) % 2000] if node % 100 else [0, (node + 1) % 2000] for node in members]
        long[0] = [1]
        self.check(long, members, members[::50])

    def test_arguments_are_not_changed_and_the_list_is_new(self):
        arguments = [[0, 1], [0, 2], [0]], [0, 1], [1, 0, 1]
        before = deepcopy(arguments)
        for targets in (arguments[2], []):
            round_trip(arguments[0], arguments[1], targets).append("more")
        self.assertEqual(arguments, before)

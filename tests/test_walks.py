import unittest
from copy import deepcopy
from random import Random

from lassoproof.graphs.walks import distances, reachable, shortest_path
from tests.graphs import is_walk, least_steps, random_graph, random_list


def wanted_distances(after, starts):
    steps = least_steps(after)
    found = []
    for node in range(len(after)):
        known = [steps[start][node] for start in starts if steps[start][node] is not None]
        found.append(min(known, default=None))
    return found


class Walks(unittest.TestCase):
    def check(self, after, starts, goals):
        wanted = wanted_distances(after, starts)
        self.assertEqual(distances(after, starts), wanted)
        self.assertEqual(reachable(after, starts),
                         [node for node, steps in enumerate(wanted) if steps is not None])
        known = [wanted[goal] for goal in goals if wanted[goal] is not None]
        path = shortest_path(after, starts, goals)
        if not known:
            self.assertIsNone(path)
            return
        self.assertEqual(len(path), min(known) + 1)
        self.assertTrue(is_walk(after, path))
        self.assertIn(path[0], starts)
        self.assertIn(path[-1], goals)

    def test_no_nodes(self):
        self.assertEqual(reachable([], []), [])
        self.assertEqual(distances([], []), [])
        self.assertIsNone(shortest_path([], [], []))

    def test_empty_lists(self):
        after = [[1], [0]]
        self.assertEqual(reachable(after, []), [])
        self.assertEqual(distances(after, []), [None, None])
        for starts, goals in [([], []), ([0], []), ([], [0])]:
            self.assertIsNone(shortest_path(after, starts, goals))

    def test_nodes_without_successors(self):
        after = [[], [0, 2], []]
        self.assertEqual(distances(after, [0]), [0, None, None])
        self.assertEqual(distances(after, [1]), [1, 0, 1])
        self.assertEqual(reachable(after, [2, 0]), [0, 2])
        self.assertIsNone(shortest_path(after, [0], [2]))

    def test_a_start_that_is_a_goal(self):
        after = [[1], [2], [0]]
        self.assertEqual(shortest_path(after, [1], [1]), [1])
        self.assertEqual(shortest_path(after, [2, 0, 2], [1, 0]), [0])
        self.assertEqual(shortest_path([[]], [0], [0]), [0])

    def test_any_order_and_twice(self):
        after = [[1], [2], [3], [3], [2]]
        self.assertEqual(distances(after, [4, 0, 4]), [0, 1, 1, 2, 0])
        self.assertEqual(reachable(after, [4, 2, 4]), [2, 3, 4])
        self.assertEqual(shortest_path(after, [4, 0, 4], [3, 3]), [4, 2, 3])
        self.assertEqual(shortest_path(after, [0, 0], [3, 2, 3, 2]), [0, 1, 2])

    def test_loops_of_one_node(self):
        self.assertEqual(distances([[0, 1], [1]], [0]), [0, 1])
        self.assertIsNone(shortest_path([[0], [1]], [0], [1]))

    def test_random_graphs(self):
        random = Random(61)
        for _ in range(400):
            count = 1 + random.randrange(8)
            after = random_graph(random, count, random.choice([0.1, 0.2, 0.4]))
            nodes = list(range(count))
            self.check(after, random_list(random, nodes), random_list(random, nodes))

    def test_large_graphs(self):
        chain = [[node + 1] for node in range(1999)] + [[]]
        self.assertEqual(distances(chain, [0]), list(range(2000)))
        self.assertEqual(shortest_path(chain, [5, 0], [1999]), list(range(5, 2000)))
        full = [list(range(2000)) for _ in range(2000)]
        self.assertEqual(len(shortest_path(full, [7], [3])), 2)
        self.assertEqual(reachable(full, [1999]), list(range(2000)))


class Lists(unittest.TestCase):
    def test_arguments_are_not_changed(self):
        arguments = [[1], [2, 0], [0]], [2, 1, 2], [0, 0]
        before = deepcopy(arguments)
        after, starts, goals = arguments
        reachable(after, starts)
        distances(after, starts)
        shortest_path(after, starts, goals)
        shortest_path(after, starts, starts)
        self.assertEqual(arguments, before)

    def test_the_lists_are_new(self):
        after, starts, goals = [[0]], [0], [0]
        for found in (reachable(after, starts), distances(after, starts),
                      shortest_path(after, starts, goals)):
            found.append("more")
        self.assertEqual((after, starts, goals), ([[0]], [0], [0]))
        self.assertEqual(reachable(after, starts), [0])

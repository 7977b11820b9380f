import unittest
from copy import deepcopy
from random import Random

from lassoproof.graphs.components import components
from tests.graphs import cut_down, least_steps, random_graph, random_part


class Components(unittest.TestCase):
    def check(self, after, members):
        found = components(after, members)
        inner = cut_down(after, members)
        steps = least_steps(inner)
        wanted = {
            tuple(b for b in members if steps[a][b] is not None and steps[b][a] is not None)
            for a in members
        }
        self.assertEqual(sorted(map(tuple, found)), sorted(wanted))
        owner = {node: index for index, part in enumerate(found) for node in part}
        for node in members:
            for ahead in inner[node]:
                self.assertLessEqual(owner[node], owner[ahead])
        return found

    def test_the_example(self):
        self.assertEqual(components([[1], [0, 2], []], [0, 1, 2]), [[0, 1], [2]])

    def test_nothing(self):
        self.assertEqual(components([], []), [])
        self.assertEqual(components([[0], [0]], []), [])

    def test_nodes_without_successors_and_loops_of_one_node(self):
        self.assertEqual(sorted(self.check([[], [], []], [0, 1, 2])), [[0], [1], [2]])
        self.assertEqual(self.check([[0]], [0]), [[0]])
        self.assertEqual(self.check([[], [0, 1]], [0, 1]), [[1], [0]])

    def test_edges_lead_on(self):
        self.assertEqual(self.check([[], [0], [1]], [0, 1, 2]), [[2], [1], [0]])
        self.assertEqual(self.check([[1], [2], []], [0, 1, 2]), [[0], [1], [2]])
        self.assertEqual(self.check([[3], [0, 1], [2, 1], [0]], [0, 1, 2, 3]), [[2], [1], [0, 3]])

    def test_no_edges_between_components(self):
        self.assertEqual(sorted(self.check([[2], [3], [0], [1]], [0, 1, 2, 3])), [[0, 2], [1, 3]])

    def test_members_are_a_part_of_the_graph(self):
        ring = [[1], [2], [3], [0]]
        self.assertEqual(self.check(ring, [0, 1, 2, 3]), [[0, 1, 2, 3]])
        self.assertEqual(self.check(ring, [0, 1, 3]), [[3], [0], [1]])
        self.assertEqual(sorted(self.check(ring, [0, 2])), [[0], [2]])
        self.assertEqual(self.check([[1, 3], [0], [0], [2]], [0, 1, 2]), [[2], [0, 1]])

    def test_random_graphs(self):
        random = Random(62)
        for _ in range(600):
            count = 1 + random.randrange(9)
            after = random_graph(random, count, random.choice([0.1, 0.2, 0.3, 0.5]))
            self.check(after, random_part(random, count, random.choice([0.5, 0.8, 1])))

    def test_large_graphs(self):
        members = list(range(2000))
        chain = [[node + 1] for node in range(1999)] + [[]]
        self.assertEqual(components(chain, members), [[node] for node in members])
        backward = [[]] + [[node] for node in range(1999)]
        self.assertEqual(components(backward, members), [[node] for node in reversed(members)])
        ring = chain[:-1] + [[0]]
        self.assertEqual(components(ring, members), [members])
        self.assertEqual(components(ring, members[1:]), [[node] for node in members[1:]])
        full = [list(members) for _ in members]
        self.assertEqual(components(full, members), [members])

    def test_arguments_are_not_changed_and_lists_are_new(self):
        after, members = [[1], [0, 2], []], [0, 1, 2]
        before = deepcopy((after, members))
        for part in components(after, members):
            part.append("more")
        components(after, members).clear()
        self.assertEqual((after, members), before)
        self.assertEqual(components(after, members), [[0, 1], [2]])

import unittest
from copy import deepcopy
from itertools import product
from random import Random

from lassoproof.fairness.blocks import accepts_blocks
from lassoproof.fairness.search import find_fair
from lassoproof.graphs.walks import reachable
from tests.fairness import accepted, has_fair_run, is_fair_part, levels, random_conditions
from tests.graphs import is_closed_walk, is_walk, random_graph, random_list

RING = [[1], [2], [3], [0]]


class Search(unittest.TestCase):
    def find(self, after, starts, justice=(), compassion=()):
        """The answer, after a look whether it is right."""
        justice, compassion = list(justice), list(compassion)
        found = find_fair(after, starts, justice=justice, compassion=compassion)
        self.assertIsInstance(found, tuple)
        nodes = reachable(after, starts)
        if found[0] == "blocks":
            self.assertEqual(len(found), 2)
            self.assertTrue(accepts_blocks(after, nodes, found[1], justice=justice,
                                           compassion=compassion))
            self.assertLessEqual(levels(found[1]), len(compassion) + 1)
        else:
            kind, stem, loop = found
            self.assertEqual(kind, "cycle")
            self.assertIn((stem + loop)[0], starts)
            self.assertTrue(is_walk(after, stem + loop))
            self.assertTrue(is_closed_walk(after, loop))
            self.assertTrue(is_fair_part(loop, justice, compassion))
            self.assertLessEqual(len(stem) + len(loop),
                                 len(after) * (len(justice) + len(compassion) + 2))
        return found

    def cycle(self, *arguments):
        found = self.find(*arguments)
        self.assertEqual(found[0], "cycle")
        return found[1:]

    def blocks(self, *arguments):
        found = self.find(*arguments)
        self.assertEqual(found[0], "blocks")
        return found[1]


class Answers(Search):
    def test_no_starts(self):
        self.assertEqual(self.find([], []), ("blocks", []))
        self.assertEqual(self.find([[0]], []), ("blocks", []))
        self.assertEqual(self.find([[0]], [], [[0]], [([0], [0])]), ("blocks", []))

    def test_no_cycle(self):
        self.assertEqual(self.find([[]], [0]), ("blocks", [("once", 0, [0], [])]))
        self.assertEqual(self.find([[1], []], [0]),
                         ("blocks", [("once", 0, [0], []), ("once", 0, [1], [])]))
        self.assertEqual(self.find([[1], [], [2]], [1]), ("blocks", [("once", 0, [1], [])]))

    def test_a_cycle_without_conditions(self):
        self.assertEqual(self.find([[0]], [0]), ("cycle", [], [0]))
        self.assertEqual(self.find([[1], [1]], [0]), ("cycle", [0], [1]))
        stem, loop = self.cycle([[1], [2], [1]], [0])
        self.assertEqual((stem, loop), ([0], [1, 2]))
        self.assertEqual(self.cycle(RING, [2, 2]), ([], [2, 3, 0, 1]))

    def test_justice(self):
        stem, loop = self.cycle(RING, [1], [[0], [2], [3]])
        self.assertEqual((stem, set(loop)), ([], {0, 1, 2, 3}))
        self.assertEqual(self.blocks(RING, [1], [[0], []]), [("justice", 1, [0, 1, 2, 3], [])])
        after = [[0, 1], [1, 2], [2]]
        self.assertEqual(self.cycle(after, [0], [[1]]), ([0], [1]))
        self.assertEqual([block[0] for block in self.blocks(after, [0], [[1], [2]])],
                         ["justice"] * 3)

    def test_many_justice_lists(self):
        count = 30
        after = [[(node + 1) % count] + ([] if node else [7]) for node in range(count)]
        after[0] = [1, 7]
        justice = [[node] for node in range(count)] * 2
        stem, loop = self.cycle(after, [3], justice)
        self.assertEqual((stem, set(loop)), ([], set(range(count))))
        self.assertEqual(len(self.blocks(after, [3], justice + [[]])), 1)

    def test_compassion(self):
        self.assertEqual(set(self.cycle(RING, [0], (), [([0], [2])])[1]), {0, 1, 2, 3})
        blocks = self.blocks(RING, [0], (), [([2], [])])
        self.assertEqual([block[:3] for block in blocks], [("compassion", 0, [0, 1, 2, 3])])
        self.assertEqual([block[2] for block in blocks[0][3]], [[3], [0], [1]])

    def test_compassion_whose_first_list_is_left(self):
        after = [[0, 1], [0, 1]]
        self.assertEqual(self.cycle(after, [0], (), [([0], [])]), ([0], [1]))
        self.assertEqual(self.cycle(after, [0], (), [([1], [])]), ([], [0]))
        self.blocks(after, [0], (), [([0], []), ([1], [])])
        self.blocks(after, [0], [[0]], [([0], [])])

    def test_compassion_with_empty_lists(self):
        self.cycle([[0]], [0], (), [([], [])])
        self.cycle([[0]], [0], (), [([], [0])])
        self.cycle([[0]], [0], (), [([0], [0])])
        self.assertEqual(self.blocks([[0]], [0], (), [([0], [])]),
                         [("compassion", 0, [0], [])])

    def test_nested_compassion(self):
        for depth in (1, 2, 5, 40):
            count = depth + 1
            after = [list(range(count)) for _ in range(count)]
            pairs = [([node], [node + 1]) for node in range(depth)]
            self.assertTrue(self.cycle(after, [0], (), pairs))
            pairs = [(list(range(node, count)) if node == depth - 1 else [node], [])
                     for node in range(depth)]
            self.assertEqual(levels(self.blocks(after, [0], (), pairs)), depth)
            pairs = [([node], []) for node in range(depth)]
            self.assertEqual(set(self.cycle(after, [0], (), pairs)[1]), {depth})
            blocks = self.blocks(after, [0], [list(range(depth))], pairs)
            self.assertEqual(levels(blocks), depth + 1)

    def test_starts_in_any_order_and_twice(self):
        after = [[1], [], [2]]
        self.assertEqual(self.cycle(after, [1, 2, 0, 2]), ([], [2]))
        self.assertEqual([block[2] for block in self.blocks(after, [1, 0, 0])], [[0], [1]])

    def test_cycles_that_cannot_be_reached(self):
        self.blocks([[], [1], [0, 2]], [0])
        self.blocks([[1], [1], [0, 2]], [0], [[2, 0]])

    def test_conditions_that_name_nodes_twice(self):
        self.cycle(RING, [0], [[0, 0], [3, 1, 3]], [([1, 1], [2, 2])])


class AllSmallGraphs(Search):
    def test_two_nodes(self):
        parts = [[], [0], [1], [0, 1]]
        for after in product(parts, repeat=2):
            for first, second, start in product(parts, repeat=3):
                self.judge(list(after), start, [first], [(first, second)])
                self.judge(list(after), start, [], [(first, second), (second, first)])

    def judge(self, after, starts, justice, compassion):
        found = self.find(after, starts, justice, compassion)
        nodes = reachable(after, starts)
        fair = has_fair_run(after, nodes, justice, compassion)
        self.assertEqual(found[0], "cycle" if fair else "blocks")
        if not fair:
            self.assertTrue(accepted(after, nodes, found[1], justice, compassion))

    def test_random_graphs(self):
        random = Random(82)
        for _ in range(1500):
            count = 1 + random.randrange(6)
            after = random_graph(random, count, random.choice([0.2, 0.3, 0.5]))
            justice, compassion = random_conditions(random, count)
            self.judge(after, random_list(random, list(range(count))), justice, compassion)


class LargeGraphs(Search):
    def test_long_ways(self):
        count = 2000
        ring = [[(node + 1) % count] for node in range(count)]
        pairs = [([node], [(node + 7) % count]) for node in range(40)]
        stem, loop = self.cycle(ring, [3], [[node] for node in range(0, count, 100)], pairs)
        self.assertEqual((len(stem), len(loop)), (0, count))
        self.blocks(ring, [3], [[]], pairs)
        chain = [[node + 1] for node in range(count - 1)] + [[]]
        self.assertEqual(len(self.blocks(chain, [0])), count)
        chain[-1] = [count - 1]
        self.assertEqual(self.cycle(chain, [0]), (list(range(count - 1)), [count - 1]))

    def test_long_lists_do_not_make_long_loops(self):
        half = 100
        after = [[node + 1] for node in range(half - 1)] + [list(range(half, 2 * half))]
        after += [[0] for _ in range(half)]
        branches = list(range(half, 2 * half))
        for justice, compassion in [([branches], []), ([], [([0], branches)]),
                                    ([branches[50:], branches], [(branches, branches[:70])])]:
            self.cycle(after, [0], justice, compassion)

    def test_forty_pairs_one_within_the_other(self):
        count = 2000
        after = [sorted({(node + 1) % count, (node + 50) % count, node}) for node in range(count)]
        pairs = [([node * 50], []) for node in range(40)]
        self.cycle(after, [0], (), pairs)
        blocks = self.blocks(after, [0], [[node * 50 for node in range(40)]], pairs)
        self.assertEqual(levels(blocks), 1 + len(pairs))


class Arguments(unittest.TestCase):
    def test_arguments_are_not_changed_and_lists_are_new(self):
        for starts, justice, compassion in [
            ([1, 0, 1], [[3, 1, 3]], [([2], [2])]), ([0], [[]], [([2, 2], [])]),
            ([0], [], [([2], [])]), ([0], [[0]], []),
        ]:
            arguments = [deepcopy(RING), starts, justice, compassion]
            before = deepcopy(arguments)

            def ask():
                return find_fair(RING, starts, justice=justice, compassion=compassion)

            first = ask()
            for part in ask()[1:]:
                part.append("more")
                for item in part:
                    if isinstance(item, tuple):
                        item[2].append("more")
                        item[3].append("more")
            self.assertEqual([RING, starts, justice, compassion], before)
            self.assertEqual(ask(), first)

    def test_conditions_are_passed_by_keyword(self):
        with self.assertRaises(TypeError):
            find_fair([], [], [], [])

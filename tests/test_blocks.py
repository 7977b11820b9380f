import unittest
from copy import deepcopy
from random import Random

from lassoproof.fairness.blocks import accepts_blocks
from tests.fairness import accepted, all_blocks, has_fair_run, random_conditions
from tests.graphs import random_graph, random_part

# Two loops of one node, the second behind the first, and a way out of them.
LADDER = [[0, 1], [1, 2], []]
# One component of four nodes.
RING = [[1], [2], [3], [0]]


def once(*nodes):
    return ("once", 0, list(nodes), [])


def just(number, *nodes):
    return ("justice", number, list(nodes), [])


class Blocks(unittest.TestCase):
    def accepts(self, after, nodes, blocks, justice=(), compassion=()):
        found = accepts_blocks(after, nodes, blocks, justice=list(justice),
                               compassion=list(compassion))
        self.assertIsInstance(found, bool)
        return found


class Reasons(Blocks):
    def test_the_example(self):
        blocks = [("once", 0, [0], []), ("justice", 0, [1], [])]
        self.assertIs(
            accepts_blocks([[1], [1]], [0, 1], blocks, justice=[[0]], compassion=[]), True)

    def test_no_nodes_and_no_blocks(self):
        self.assertTrue(self.accepts([], [], []))
        self.assertTrue(self.accepts([[0]], [], []))
        self.assertFalse(self.accepts([[0]], [0], []))
        self.assertFalse(self.accepts([[0]], [], [just(0, 0)], justice=[[]]))

    def test_once(self):
        self.assertTrue(self.accepts([[1], []], [0, 1], [once(0), once(1)]))
        self.assertTrue(self.accepts([[], []], [0, 1], [once(1), once(0)]))
        self.assertTrue(self.accepts([[], []], [0, 1], [once(0, 1)]))
        self.assertTrue(self.accepts([[1], []], [0], [once(0)]))
        self.assertFalse(self.accepts([[0]], [0], [once(0)]))
        self.assertFalse(self.accepts([[1], []], [0, 1], [once(0, 1)]))
        self.assertFalse(self.accepts([[], [0]], [0, 1], [once(0, 1)]))
        self.assertFalse(self.accepts([[1], [0]], [0, 1], [once(0, 1)]))

    def test_the_number_of_once_is_0(self):
        for number in (1, -1, 2):
            self.assertFalse(self.accepts([[]], [0], [("once", number, [0], [])],
                                          [[], []], [([0], []), ([0], [])]))

    def test_justice(self):
        justice = [[0], [1, 2], []]
        self.assertTrue(self.accepts(RING, [0, 1, 2, 3], [just(2, 0, 1, 2, 3)], justice))
        for number in (0, 1, 3, -1):
            self.assertFalse(
                self.accepts(RING, [0, 1, 2, 3], [just(number, 0, 1, 2, 3)], justice))
        self.assertTrue(self.accepts([[0], [1]], [0, 1], [just(0, 1), just(1, 0)], justice))
        self.assertFalse(self.accepts([[0], [1]], [0, 1], [just(0, 0), just(1, 1)], justice))

    def test_numbers_count_from_the_front_only(self):
        self.assertFalse(self.accepts([[0]], [0], [just(-1, 0)], justice=[[]]))
        self.assertFalse(self.accepts([[0]], [0], [("compassion", -1, [0], [])],
                                      compassion=[([0], [])]))

    def test_compassion(self):
        pair = ([0], [])
        inner = [once(1), once(2), once(3)]
        self.assertTrue(self.accepts(RING, [0, 1, 2, 3],
                                     [("compassion", 0, [0, 1, 2, 3], inner)], (), [pair]))
        self.assertTrue(self.accepts([[0]], [0], [("compassion", 0, [0], [])], (), [pair]))
        self.assertTrue(self.accepts([[0]], [0], [("compassion", 1, [0], [])],
                                     compassion=[([0], [0]), pair]))

    def test_compassion_with_a_node_of_the_second_list(self):
        self.assertFalse(self.accepts([[0]], [0], [("compassion", 0, [0], [])],
                                      compassion=[([0], [0])]))
        inner = [once(1), once(2), once(3)]
        for node in range(4):
            self.assertFalse(self.accepts(RING, [0, 1, 2, 3],
                                          [("compassion", 0, [0, 1, 2, 3], inner)],
                                          compassion=[([0], [node])]))

    def test_compassion_with_an_empty_first_list(self):
        blocks = [("compassion", 0, [0], [just(0, 0)])]
        self.assertTrue(self.accepts([[0]], [0], blocks, [[]], [([], [])]))
        self.assertFalse(self.accepts([[0]], [0], [("compassion", 0, [0], [])], (), [([], [])]))

    def test_every_level(self):
        for depth in (1, 2, 3, 41):
            after = [list(range(depth)) for _ in range(depth)]
            pairs = [([node], []) for node in range(depth)]
            blocks = []
            for node in reversed(range(depth)):
                blocks = [("compassion", node, list(range(node, depth)), blocks)]
            nodes = list(range(depth))
            self.assertTrue(self.accepts(after, nodes, blocks, (), pairs))
            for level in range(depth):
                spoilt = deepcopy(blocks)
                block = spoilt[0]
                for _ in range(level):
                    block = block[3][0]
                block[2].pop()
                self.assertFalse(self.accepts(after, nodes, spoilt, (), pairs))
            worse = pairs[:-1] + [([depth - 1], [depth - 1])]
            self.assertFalse(self.accepts(after, nodes, blocks, (), worse))

    def test_inner_blocks_with_each_reason(self):
        after = [[0, 1, 2, 3, 4], [0, 2], [0, 2, 3], [0, 3, 4], [0, 4]]
        inner = [once(1), just(0, 2), ("compassion", 1, [3], []), just(1, 4)]
        blocks = [("compassion", 0, [0, 1, 2, 3, 4], inner)]
        justice, pairs = [[0, 4], [0, 3]], [([0], []), ([3], [2])]
        nodes = [0, 1, 2, 3, 4]
        self.assertTrue(self.accepts(after, nodes, blocks, justice, pairs))
        inner[0], inner[1] = inner[1], inner[0]
        self.assertFalse(self.accepts(after, nodes, blocks, justice, pairs))


class Spoilt(Blocks):
    def setUp(self):
        self.blocks = [just(0, 0), just(0, 1), once(2)]
        self.assertTrue(self.fits())

    def fits(self, after=LADDER, nodes=(0, 1, 2)):
        return self.accepts(after, list(nodes), self.blocks, [[2]], [([1], [])])

    def test_reasons_that_fit_nowhere(self):
        for reason in ("", "Justice", "always", "justice ", "cycle"):
            self.blocks[1] = (reason, 0, [1], [])
            self.assertFalse(self.fits())

    def test_numbers_that_fit_nowhere(self):
        for number in (1, -1, 2, 10 ** 18):
            for reason in ("justice", "compassion", "once"):
                self.blocks[1] = (reason, number, [1], [])
                self.assertFalse(self.fits())
        self.blocks[1] = ("compassion", 0, [1], [])
        self.assertTrue(self.fits())

    def test_blocks_in_the_wrong_order(self):
        for blocks in ([1, 0, 2], [0, 2, 1], [2, 1, 0]):
            self.blocks = [[just(0, 0), just(0, 1), once(2)][k] for k in blocks]
            self.assertFalse(self.fits())

    def test_nodes_in_the_wrong_order(self):
        self.blocks = [just(0, 1, 0), once(2)]
        self.assertFalse(self.fits())
        self.blocks = [just(0, 0, 1), once(2)]
        self.assertTrue(self.fits())

    def test_nodes_twice(self):
        for blocks in ([just(0, 0, 0), just(0, 1), once(2)],
                       [just(0, 0), just(0, 0, 1), once(2)],
                       [just(0, 0), just(0, 1), just(0, 1), once(2)],
                       [just(0, 0), just(0, 1), once(2), once(2)]):
            self.blocks = blocks
            self.assertFalse(self.fits())

    def test_nodes_that_are_missing(self):
        for blocks in ([just(0, 0), just(0, 1)], [just(0, 1), once(2)], [just(0, 0), once(2)],
                       [], [just(0, 0, 1)]):
            self.blocks = blocks
            self.assertFalse(self.fits())

    def test_blocks_without_nodes(self):
        for empty in (once(), just(0), ("compassion", 0, [], [])):
            for place in range(4):
                self.blocks = [just(0, 0), just(0, 1), once(2)]
                self.blocks.insert(place, empty)
                self.assertFalse(self.fits())

    def test_nodes_too_many(self):
        self.assertFalse(self.fits(nodes=[0, 1]))
        self.assertFalse(self.fits(nodes=[1, 2]))
        for node in (-1, 3, 2000, -10 ** 18):
            self.blocks[0] = just(0, *sorted([0, node]))
            self.assertFalse(self.fits())
            self.blocks[0] = just(0, 0)
            self.blocks.append(once(node))
            self.assertFalse(self.fits())
            self.blocks.pop()
            self.blocks.insert(0, once(node))
            self.assertFalse(self.fits())
            self.blocks.pop(0)
        self.assertTrue(self.fits())

    def test_an_edge_that_leads_back(self):
        for after in ([[0, 1], [0, 1, 2], []], [[0, 1], [1, 2], [0]], [[0, 1], [1, 2], [1]]):
            self.assertFalse(self.fits(after))

    def test_edges_to_other_nodes_do_not_matter(self):
        after = [[0, 1, 3], [1, 2, 3], [3], [0, 1, 2, 3]]
        self.assertTrue(self.fits(after))

    def test_an_inner_list_where_none_belongs(self):
        for inner in ([once(0)], [just(0, 0)], [once()]):
            self.blocks[0] = ("justice", 0, [0], inner)
            self.assertFalse(self.fits())
        self.blocks[0] = just(0, 0)
        for inner in ([once(2)], [just(0, 2)], [once()]):
            self.blocks[2] = ("once", 0, [2], inner)
            self.assertFalse(self.fits())

    def test_an_inner_list_for_the_wrong_nodes(self):
        rest = [0, 2, 3]
        for nodes, fit in [([2, 3, 0], True), ([0, 1, 2, 3], False), ([1, 2, 3, 0], False),
                           ([1], False), ([2, 3], False), ([0, 2], False), ([2, 3, 0, 1], False),
                           ([3, 2, 0], False), ([0, 2, 3], False), ([], False)]:
            inner = [once(node) for node in nodes]
            blocks = [("compassion", 0, [0, 1, 2, 3], inner)]
            self.assertIs(self.accepts(RING, [0, 1, 2, 3], blocks, (), [([1], [])]), fit)
            self.assertIs(self.accepts(RING, rest, inner), fit)

    def test_given_nodes_that_do_not_fit(self):
        self.assertFalse(self.accepts([[], []], [1, 0], [once(0, 1)]))
        self.assertFalse(self.accepts([[], []], [0, 0], [once(0)]))
        for node in (-1, 2):
            self.assertFalse(self.accepts([[], []], [node], [once(node)]))
        for nodes in ([-1, 0], [0, 2], [-2, -1], [2, 3], [-1, 0, 1], [0, 1, 2]):
            self.assertFalse(self.accepts([[], []], nodes, [once(node) for node in nodes]))


class RandomBlocks(Blocks):
    def test_against_the_words_of_the_document(self):
        random = Random(81)
        count_of = {True: 0, False: 0}
        for _ in range(4000):
            count = 1 + random.randrange(5)
            after = random_graph(random, count, random.choice([0.2, 0.4]))
            justice, compassion = random_conditions(random, count)
            nodes = random_part(random, count, 0.8)
            blocks = random_blocks(random, after, nodes, justice, compassion, 3)
            if random.random() < 0.4 and blocks:
                spoil(random, random.choice(all_blocks(blocks)), count)
            found = self.accepts(after, nodes, blocks, justice, compassion)
            self.assertIs(found, accepted(after, nodes, blocks, justice, compassion))
            if found:
                self.assertFalse(has_fair_run(after, nodes, justice, compassion))
            count_of[found] += 1
        self.assertGreater(count_of[True], 300)
        self.assertGreater(count_of[False], 300)


def random_blocks(random, after, nodes, justice, compassion, depth):
    """Blocks for nodes, of neighbours in a random order, most of them with a fitting reason."""
    order = list(nodes)
    random.shuffle(order)
    if random.random() < 0.8:
        order.sort(key=lambda node: sum(ahead in nodes for ahead in after[node]), reverse=True)
    blocks = []
    while order:
        size = random.choice([1, 1, len(order)])
        members, order = sorted(order[:size]), order[size:]
        blocks.append(random_block(random, after, members, justice, compassion, depth))
    return blocks


def random_block(random, after, members, justice, compassion, depth):
    if not any(ahead in after[node] for node in members for ahead in members):
        return once(*members)
    fitting = [k for k, nodes in enumerate(justice) if not set(nodes) & set(members)]
    if fitting:
        return just(random.choice(fitting), *members)
    if compassion and depth:
        number = random.randrange(len(compassion))
        rest = [node for node in members if node not in compassion[number][0]]
        inner = random_blocks(random, after, rest, justice, compassion, depth - 1)
        return ("compassion", number, members, inner)
    return just(0, *members)


def spoil(random, block, count):
    """Changes the nodes or the inner blocks of a block."""
    nodes, inner = block[2], block[3]
    choice = random.randrange(4)
    if choice == 0:
        nodes.append(random.randrange(-1, count + 1))
    elif choice == 1:
        nodes.pop()
    elif choice == 2:
        inner.append(once(random.randrange(count)))
    else:
        nodes.reverse()


class Arguments(unittest.TestCase):
    def test_arguments_are_not_changed(self):
        nodes = [0, 1, 2, 3]
        blocks = [("compassion", 0, [0, 1, 2, 3], [once(1), once(2), once(3)])]
        arguments = [deepcopy(RING), nodes, blocks, [[0, 0]], [([0], []), ([], [1, 1])]]
        before = deepcopy(arguments)
        accepts_blocks(*arguments[:3], justice=arguments[3], compassion=arguments[4])
        self.assertEqual(arguments, before)

    def test_conditions_are_passed_by_keyword(self):
        with self.assertRaises(TypeError):
            accepts_blocks([], [], [], [], [])

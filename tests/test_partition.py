import unittest
from copy import deepcopy
from itertools import product
from random import Random

from lassoproof.branching.answers import answer
from lassoproof.branching.formulas import number_branches
from lassoproof.classes.partition import classes, rounds_apart
from lassoproof.classes.telling import telling, truths_of
from tests.branches import random_branches
from tests.graphs import random_graph

LABELS = [0, 1, "a", "b", "", "0", (0,), (0, 1), ((0, "a"), 1), (((1,), 0),), ("a",), ()]


def naive_rounds(after, labels):
    """The rounds that tell nodes apart, by the words of point 9.1."""
    nodes = range(len(after))
    found = {(a, b): 0 for a in nodes for b in nodes if labels[a] != labels[b]}
    for rounds in range(1, len(after) + 2):
        before = set(found)

        def told_by(one, other):
            return any(all((ahead, rest) in before for rest in after[other]) for ahead in after[one])

        for a in nodes:
            for b in nodes:
                if (a, b) not in found and (told_by(a, b) or told_by(b, a)):
                    found[a, b] = rounds
    return [[found.get((a, b)) for b in nodes] for a in nodes]


def naive_classes(rounds):
    """The numbers of the classes in the order of their first nodes."""
    found, count = [], 0
    for node, row in enumerate(rounds):
        alike = [other for other in range(node) if row[other] is None]
        found.append(found[alike[0]] if alike else count)
        count += not alike
    return found


def random_labels(random, count, kinds):
    return [random.choice(LABELS[:kinds]) for _ in range(count)]


class Rounds(unittest.TestCase):
    def look(self, after, labels):
        """The rounds and the classes, after a look whether they are right."""
        rounds = rounds_apart(after, labels)
        self.assertEqual(rounds, naive_rounds(after, labels), (after, labels))
        found = classes(after, labels)
        self.assertEqual(found, naive_classes(rounds), (after, labels))
        return rounds, found

    def test_the_example(self):
        self.assertEqual(rounds_apart([[1], [2], [2]], ["a", "a", "b"])[0], [None, 1, 0])

    def test_no_nodes(self):
        self.assertEqual(self.look([], []), ([], []))

    def test_one_node(self):
        self.assertEqual(self.look([[]], [0]), ([[None]], [0]))
        self.assertEqual(self.look([[0]], ["a"]), ([[None]], [0]))

    def test_nodes_without_successors(self):
        rounds, found = self.look([[], [], [0], [3]], [0, 0, 0, 0])
        self.assertEqual(rounds[0], [None, None, 1, 1])
        self.assertEqual(rounds[2], [1, 1, None, 2])
        self.assertEqual(found, [0, 0, 1, 2])
        self.assertEqual(self.look([[], []], [0, 1]), ([[None, 0], [0, None]], [0, 1]))

    def test_labels_of_each_kind(self):
        count = len(LABELS)
        rounds, found = self.look([[] for _ in LABELS], LABELS)
        self.assertEqual(found, list(range(count)))
        rounds, found = self.look([[] for _ in LABELS * 2], LABELS * 2)
        self.assertEqual(found, list(range(count)) * 2)

    def test_a_number_is_no_string(self):
        self.assertEqual(classes([[], [], []], [1, "1", (1,)]), [0, 1, 2])

    def test_one_successor_more(self):
        # Node 0 has what node 1 has, and more; it makes a difference if the labels differ.
        after = [[2, 3], [2], [2], [3]]
        self.assertEqual(self.look(after, [0, 0, 1, 2])[0][0][1], 1)
        self.assertEqual(self.look(after, [0, 0, 1, 1])[1], [0, 0, 1, 1])

    def test_the_order_of_the_classes(self):
        self.assertEqual(self.look([[0], [1], [2], [3]], ["b", "a", "b", "a"])[1], [0, 1, 0, 1])
        self.assertEqual(self.look([[3], [3], [], [2]], [0, 0, 0, 0])[1], [0, 0, 1, 2])
        self.assertEqual(self.look([[0], [0], [2], [2]], [5, 7, 7, 7])[1], [0, 1, 2, 2])

    def test_rings(self):
        for count in range(1, 7):
            ring = [[(node + 1) % count] for node in range(count)]
            self.assertEqual(self.look(ring, [0] * count)[1], [0] * count)
            self.look(ring, [0] * (count - 1) + [1])
        two = [[1], [0], [3], [4], [2]]
        self.assertEqual(self.look(two, [0] * 5)[1], [0] * 5)
        self.assertEqual(self.look(two, [0, 1, 0, 1, 0])[1], [0, 1, 2, 3, 4])

    def test_long_chains(self):
        count = 30
        chain = [[node + 1] for node in range(count - 1)] + [[]]
        rounds, found = self.look(chain, [0] * count)
        self.assertEqual(rounds[0][1], count - 1)
        self.assertEqual(found, list(range(count)))
        chain[-1] = [count - 1]
        self.assertEqual(self.look(chain, [0] * count)[1], [0] * count)
        self.look(chain, [0] * (count - 1) + [1])

    def test_all_small_graphs(self):
        parts = [[], [0], [1], [2], [0, 1], [0, 2], [1, 2], [0, 1, 2]]
        for after in product(parts, repeat=3):
            for labels in ([0, 0, 0], [0, 0, 1], [0, "a", 0]):
                self.look(list(after), labels)

    def test_random_graphs(self):
        random = Random(121)
        for _ in range(400):
            count = 1 + random.randrange(9)
            self.look(random_graph(random, count, random.choice([0.1, 0.2, 0.4])),
                      random_labels(random, count, random.choice([1, 2, 2, 3])))

    def test_random_graphs_with_few_edges(self):
        random = Random(122)
        for _ in range(60):
            count = 12
            after = [sorted({random.randrange(count) for _ in range(random.randrange(3))})
                     for _ in range(count)]
            self.look(after, [int(random.random() < 0.1) for _ in range(count)])

    def test_large_graphs(self):
        count = 2000
        chain = [[node + 1] for node in range(count - 1)] + [[]]
        rounds = rounds_apart(chain, [0] * count)
        for a, b in [(0, 1), (5, 1999), (1998, 1999), (1000, 1001), (7, 7)]:
            wanted = None if a == b else count - max(a, b)
            self.assertEqual((rounds[a][b], rounds[b][a]), (wanted, wanted))
        self.assertEqual(classes(chain, [0] * count), list(range(count)))
        below = [list(range(node)) for node in range(300)]
        self.assertEqual(classes(below, ["x"] * 300), list(range(300)))
        ring = [[(node + 1) % count] for node in range(count)]
        self.assertEqual(classes(ring, [node % 4 for node in range(count)]), [0, 1, 2, 3] * 500)

    def test_arguments_are_not_changed_and_lists_are_new(self):
        after, labels = [[1], [2], [2]], ["a", "a", "b"]
        before = deepcopy((after, labels))
        rounds = rounds_apart(after, labels)
        found = classes(after, labels)
        copy = deepcopy((rounds, found))
        rounds[0].clear()
        rounds.pop()
        found.clear()
        self.assertEqual((after, labels), before)
        self.assertEqual((rounds_apart(after, labels), classes(after, labels)), copy)
        rounds = rounds_apart([[], []], [0, 0])
        rounds[0][1] = 5
        self.assertEqual(rounds[1], [None, None])

    def test_nodes_of_one_class_have_the_same_branching_truths(self):
        random = Random(123)
        atoms = [("equal", ("name", "x"), ("number", k)) for k in range(2)]
        for _ in range(150):
            count = 2 + random.randrange(5)
            after = random_graph(random, count, 0.3)
            after = [following or [random.randrange(count)] for following in after]
            rows = number_branches(random_branches(random, 4, atoms))
            facts = [[random.random() < 0.5 for _ in rows.facts] for _ in range(count)]
            found = classes(after, [tuple(int(fact) for fact in row) for row in facts])
            for truths in answer(after, facts, rows).truths:
                for a, b in product(range(count), repeat=2):
                    if found[a] == found[b]:
                        self.assertEqual(truths[a], truths[b])


class Telling(unittest.TestCase):
    def truths(self, after, labels, rows):
        """The truths of telling rows, by the words of point 9.3."""
        nodes = range(len(after))
        found = []
        for word, k, m in rows:
            found.append([{
                "label": lambda node: labels[node] == labels[k],
                "not": lambda node: not found[k][node],
                "and": lambda node: found[k][node] and found[m][node],
                "can": lambda node: any(found[k][ahead] for ahead in after[node]),
            }[word](node) for node in nodes])
        self.assertEqual(truths_of(after, labels, rows), found)
        return found

    def look(self, after, labels):
        """Looks at the telling rows of all pairs of nodes."""
        rounds = naive_rounds(after, labels)
        for one, other in product(range(len(after)), repeat=2):
            rows = telling(after, labels, one, other)
            if rounds[one][other] is None:
                self.assertIsNone(rows)
                continue
            self.assertIsInstance(rows, list)
            self.assertLessEqual(len(rows), (len(after) + 1) ** 3)
            for number, row in enumerate(rows):
                self.form(row, number, len(after))
            last = self.truths(after, labels, rows)[-1]
            self.assertEqual((last[one], last[other]), (True, False))

    def form(self, row, number, count):
        word, left, right = row
        if word == "label":
            self.assertTrue(0 <= left < count and right == -1)
        elif word == "and":
            self.assertTrue(0 <= left < number and 0 <= right < number)
        else:
            self.assertIn(word, ("not", "can"))
            self.assertTrue(0 <= left < number and right == -1)

    def test_nodes_of_one_class(self):
        self.assertIsNone(telling([[0]], [0], 0, 0))
        self.assertIsNone(telling([[1], [0]], [0, 0], 0, 1))

    def test_labels(self):
        self.assertEqual(telling([[], []], ["a", "b"], 0, 1), [("label", 0, -1)])
        self.assertEqual(telling([[], []], ["a", "b"], 1, 0), [("label", 1, -1)])

    def test_both_orders(self):
        for after, labels in [
            ([[], [1]], [0, 0]), ([[1], [2], [2]], ["a", "a", "b"]), ([[], [0], [1], [2]], [0] * 4),
            ([[0, 1], [1], [2]], [0, 0, 1]), ([[2, 3], [2], [2], [3]], [0, 0, 1, 2]),
            ([[2, 3], [2, 4], [2], [3], [4]], [0, 0, 1, 2, 3]), ([[2], [3], [], []], [0, 0, "a", "b"]),
        ]:
            self.look(after, labels)

    def test_random_graphs(self):
        random = Random(124)
        for _ in range(100):
            count = 1 + random.randrange(7)
            self.look(random_graph(random, count, random.choice([0.1, 0.2, 0.4])),
                      random_labels(random, count, random.choice([1, 2, 5])))

    def test_sixty_nodes(self):
        count = 60
        chain = [[node + 1] for node in range(count - 1)] + [[]]
        for after in (chain, [list(range(node)) for node in range(count)],
                      [list(range(node + 1, count)) for node in range(count)]):
            for one, other in [(0, 1), (1, 0), (59, 58), (58, 59), (0, 59), (59, 0), (20, 31)]:
                rows = telling(after, [0] * count, one, other)
                self.assertLessEqual(len(rows), (count + 1) ** 3)
                last = truths_of(after, [0] * count, rows)[-1]
                self.assertEqual((last[one], last[other]), (True, False))

    def test_truths_of_rows_made_by_hand(self):
        after, labels = [[1, 2], [2], []], ["a", "b", "a"]
        rows = [("label", 2, -1), ("can", 0, -1), ("not", 1, -1), ("and", 0, 2), ("and", 3, 3),
                ("can", 4, -1), ("label", 1, -1)]
        self.assertEqual(self.truths(after, labels, rows), [
            [True, False, True], [True, True, False], [False, False, True], [False, False, True],
            [False, False, True], [True, True, False], [False, True, False],
        ])
        self.assertEqual(truths_of(after, labels, []), [])
        self.assertEqual(truths_of([], [], []), [])

    def test_random_rows_made_by_hand(self):
        random = Random(125)
        for _ in range(100):
            count = 1 + random.randrange(6)
            rows = [("label", random.randrange(count), -1)]
            for number in range(1, 12):
                word = random.choice(["label", "not", "and", "can"])
                left = random.randrange(count if word == "label" else number)
                rows.append((word, left, random.randrange(number) if word == "and" else -1))
            self.truths(random_graph(random, count, 0.3), random_labels(random, count, 3), rows)

    def test_arguments_are_not_changed_and_lists_are_new(self):
        after, labels = [[1], [2], [2]], ["a", "a", "b"]
        before = deepcopy((after, labels))
        rows = telling(after, labels, 0, 1)
        copy = list(rows)
        truths = truths_of(after, labels, rows)
        again = deepcopy(truths)
        truths[0].clear()
        truths.pop()
        self.assertEqual(truths_of(after, labels, rows), again)
        self.assertEqual((after, labels, rows), before + (copy,))
        rows.clear()
        self.assertEqual(telling(after, labels, 0, 1), copy)

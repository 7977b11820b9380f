import unittest
from copy import deepcopy
from random import Random

from lassoproof.classes.lifting import lift_lasso
from lassoproof.classes.partition import classes
from lassoproof.classes.quotient import Quotient, quotient
from lassoproof.lassos.words import same_run
from tests.graphs import is_closed_walk, is_walk, random_graph, random_list


def fields(found):
    return (found.class_of, found.after, found.starts, found.labels)


class Quotients(unittest.TestCase):
    def look(self, after, starts, labels):
        """The quotient, after a look whether it is right by point 9.4."""
        found = quotient(after, starts, labels)
        self.assertIsInstance(found, Quotient)
        class_of = classes(after, labels)
        self.assertEqual(found.class_of, class_of)
        count = len(set(class_of))
        self.assertEqual(found.after, [
            sorted({class_of[ahead] for node in range(len(after)) if class_of[node] == number
                    for ahead in after[node]}) for number in range(count)
        ])
        for node, following in enumerate(after):
            self.assertEqual(sorted({class_of[ahead] for ahead in following}),
                             found.after[class_of[node]])
        self.assertEqual(found.starts, sorted({class_of[start] for start in starts}))
        self.assertEqual(len(found.labels), count)
        for node, label in enumerate(labels):
            self.assertEqual(found.labels[class_of[node]], label)
        return found

    def test_no_nodes(self):
        self.assertEqual(fields(self.look([], [], [])), ([], [], [], []))

    def test_a_ring(self):
        found = self.look([[1], [2], [3], [0]], [3, 1], ["a", "b", "a", "b"])
        self.assertEqual(fields(found), ([0, 1, 0, 1], [[1], [0]], [1], ["a", "b"]))

    def test_a_class_that_follows_itself(self):
        found = self.look([[1], [0], [0, 2]], [2], [0, 0, 1])
        self.assertEqual(fields(found), ([0, 0, 1], [[0], [0, 1]], [1], [0, 1]))

    def test_nodes_without_successors(self):
        found = self.look([[2], [3], [], []], [1], [0, 0, 0, 0])
        self.assertEqual(fields(found), ([0, 0, 1, 1], [[1], []], [0], [0, 0]))

    def test_starts_in_any_order_and_twice(self):
        after, labels = [[0], [1], [2], [3]], [5, 6, 5, 7]
        for starts, wanted in [([], []), ([3, 0, 3, 2], [0, 2]), ([2, 0], [0]), ([1, 1], [1]),
                               ([3, 2, 1, 0], [0, 1, 2])]:
            self.assertEqual(self.look(after, starts, labels).starts, wanted)

    def test_a_quotient_of_a_quotient(self):
        random = Random(131)
        for _ in range(200):
            count = 1 + random.randrange(8)
            after = random_graph(random, count, random.choice([0.1, 0.2, 0.4]))
            labels = [random.choice([0, 1, "a"][:random.randrange(1, 4)]) for _ in range(count)]
            starts = random_list(random, list(range(count)))
            found = self.look(after, starts, labels)
            again = self.look(found.after, found.starts, found.labels)
            self.assertEqual(again.class_of, list(range(len(found.after))))
            self.assertEqual(fields(again)[1:], fields(found)[1:])

    def test_fields_and_copies(self):
        class_of, after, starts, labels = [0, 1], [[1], [0, 1]], [0], ["a", (1, "b")]
        found = Quotient(class_of, after, starts, labels)
        wanted = deepcopy((class_of, after, starts, labels))
        self.assertEqual(fields(found), wanted)
        class_of.append(2)
        after[0].append(7)
        after.pop()
        starts.clear()
        labels[0] = "z"
        self.assertEqual(fields(found), wanted)
        found = Quotient(class_of=[], after=[], starts=[], labels=[])
        self.assertEqual(fields(found), ([], [], [], []))

    def test_arguments_are_not_changed_and_lists_are_new(self):
        arguments = ([[1], [2], [0]], [2, 0, 2], [0, 0, 0])
        before = deepcopy(arguments)
        found = quotient(*arguments)
        copy = deepcopy(fields(found))
        for part in fields(found):
            part.append("more")
        found.after[0].append("more")
        self.assertEqual(arguments, before)
        self.assertEqual(fields(quotient(*arguments)), copy)


class Lifting(unittest.TestCase):
    def lift(self, after, starts, class_of, stem, loop):
        """The lifted lasso, after a look whether it is right by point 9.5."""
        found = lift_lasso(after, starts, class_of, stem, loop)
        self.assertIsInstance(found, tuple)
        nodes, turn = found
        self.assertIn((nodes + turn)[0], starts)
        self.assertTrue(is_walk(after, nodes + turn))
        self.assertTrue(is_closed_walk(after, turn))
        classes_on = [[class_of[node] for node in part] for part in found]
        self.assertTrue(same_run(tuple(classes_on), (stem, loop)))
        self.assertLessEqual(len(nodes) + len(turn), len(stem) + len(loop) * (len(after) + 1))
        return found

    def test_small_graphs(self):
        self.assertEqual(self.lift([[0]], [0], [0], [], [0]), ([], [0]))
        self.assertEqual(self.lift([[1], [1]], [0], [0, 1], [0], [1]), ([0], [1]))
        self.assertEqual(self.lift([[1], [2], [1]], [0], [0, 0, 0], [], [0]), ([0], [1, 2]))

    def test_the_right_start(self):
        after, class_of = [[0], [1], [2]], [0, 1, 2]
        self.assertEqual(self.lift(after, [0, 2, 1, 2], class_of, [], [2]), ([], [2]))
        self.assertEqual(self.lift(after, [2, 1], class_of, [1], [1]), ([1], [1]))

    def test_a_start_of_its_class_that_is_not_the_first_node(self):
        after, class_of = [[0], [0]], [0, 0]
        stem, loop = self.lift(after, [1], class_of, [], [0])
        self.assertEqual((stem + loop)[0], 1)

    def test_many_rounds(self):
        count = 7
        ring = [[(node + 1) % count] for node in range(count)]
        stem, loop = self.lift(ring, [3], [0] * count, [], [0])
        self.assertEqual((stem, sorted(loop)), ([], list(range(count))))
        stem, loop = self.lift(ring, [3], [0] * count, [0, 0], [0, 0, 0])
        self.assertEqual(len(loop) % count, 0)
        chain = [[node + 1] for node in range(count - 1)] + [[count - 1]]
        self.assertEqual(self.lift(chain, [0], [0] * count, [], [0]),
                         (list(range(count - 1)), [count - 1]))

    def test_random_lassos_of_classes(self):
        random = Random(132)
        asked = 0
        while asked < 500:
            count = 1 + random.randrange(8)
            after = random_graph(random, count, random.choice([0.2, 0.3]))
            labels = [random.choice([0, 0, 0, 1]) for _ in range(count)]
            starts = [random.randrange(count) for _ in range(1 + random.randrange(3))]
            small = quotient(after, starts, labels)
            lasso = self.random_lasso(random, small)
            if lasso is not None:
                asked += 1
                self.lift(after, starts, small.class_of, *lasso)

    def random_lasso(self, random, small):
        """A random lasso of classes that the quotient has, or None."""
        walk = [random.choice(small.starts)]
        for _ in range(random.randrange(12)):
            if not small.after[walk[-1]]:
                return None
            walk.append(random.choice(small.after[walk[-1]]))
        turns = [k for k in range(len(walk)) if walk[k] in small.after[walk[-1]]]
        if not turns:
            return None
        turn = random.choice(turns)
        return walk[:turn], walk[turn:]

    def test_large_graphs(self):
        count = 2000
        ring = [[(node + 1) % count] for node in range(count)]
        class_of = [node % 4 for node in range(count)]
        stem, loop = self.lift(ring, [10], class_of, [2, 3], [0, 1, 2, 3])
        self.assertEqual(len(loop), count)

    def test_arguments_are_not_changed_and_lists_are_new(self):
        arguments = ([[1], [2], [1]], [0, 0], [0, 0, 0], [0], [0, 0])
        before = deepcopy(arguments)
        found = lift_lasso(*arguments)
        copy = deepcopy(found)
        found[0].clear()
        found[1].clear()
        self.assertEqual(arguments, before)
        self.assertEqual(lift_lasso(*arguments), copy)

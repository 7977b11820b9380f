import unittest
from copy import deepcopy
from itertools import product
from random import Random

from lassoproof.lassos.words import same_run, shortest, state_at, suffix, unrolled
from tests.runs import all_lassos

A, B, C = (0,), (1,), (2,)
FAR = 10 ** 18


def unfolded(stem, loop, count):
    """The first states of a run, one by one."""
    states = list(stem)
    while len(states) < count:
        states += loop
    return states[:count]


def number_lassos(stems, loops):
    """All lassos of the nodes 0 and 1 with stems and loops of these lengths."""
    return all_lassos([0, 1], stems, loops)


class StateAt(unittest.TestCase):
    def test_places_of_the_stem_and_of_the_loop(self):
        stem, loop = [A, B], [C, A, B]
        found = [state_at(stem, loop, place) for place in range(9)]
        self.assertEqual(found, [A, B, C, A, B, C, A, B, C])

    def test_an_empty_stem(self):
        self.assertEqual([state_at([], [A, B], place) for place in range(4)], [A, B, A, B])

    def test_far_places(self):
        self.assertEqual(state_at([], [A, B, C], FAR), B)
        self.assertEqual(state_at([A], [A, B], FAR), B)
        self.assertEqual(state_at([A], [A, B], FAR - 1), A)
        self.assertEqual(state_at([A] * 5, [10, 11, 12, 13, 14, 15, 16], FAR), 10 + (FAR - 5) % 7)

    def test_states_with_no_values_and_node_numbers(self):
        self.assertEqual(state_at([()], [()], 7), ())
        self.assertEqual([state_at([4, 0], [7], place) for place in range(4)], [4, 0, 7, 7])

    def test_all_small_lassos(self):
        for stem, loop in number_lassos([0, 1, 2], [1, 2, 3]):
            self.assertEqual([state_at(stem, loop, place) for place in range(12)],
                             unfolded(stem, loop, 12))


class Suffix(unittest.TestCase):
    def test_within_the_stem(self):
        self.assertEqual(suffix([A, B], [C, A], 0), ([A, B], [C, A]))
        self.assertEqual(suffix([A, B], [C, A], 1), ([B], [C, A]))

    def test_the_stem_just_used_up(self):
        self.assertEqual(suffix([A, B], [C, A], 2), ([], [C, A]))

    def test_within_the_loop(self):
        self.assertEqual(suffix([A], [A, B, C], 2), ([], [B, C, A]))
        self.assertEqual(suffix([A], [A, B, C], 3), ([], [C, A, B]))
        self.assertEqual(suffix([A], [A, B, C], 4), ([], [A, B, C]))
        self.assertEqual(suffix([], [A, B, C], 5), ([], [C, A, B]))

    def test_far_places(self):
        self.assertEqual(suffix([A], [0, 1, 2], FAR), ([], [0, 1, 2]))
        self.assertEqual(suffix([], [0, 1, 2], FAR), ([], [1, 2, 0]))
        self.assertEqual(suffix([5, 6], [0, 1], FAR - 1), ([], [1, 0]))

    def test_loops_are_not_made_shorter(self):
        self.assertEqual(suffix([A, A], [A, A], 1), ([A], [A, A]))
        self.assertEqual(suffix([A, A], [A, B, A, B], 3), ([], [B, A, B, A]))

    def test_all_small_lassos(self):
        for stem, loop in number_lassos([0, 1, 2], [1, 2, 3]):
            for place in range(9):
                rest, turn = suffix(stem, loop, place)
                self.assertEqual(len(rest), max(0, len(stem) - place))
                self.assertEqual(len(turn), len(loop))
                self.assertEqual(unfolded(rest, turn, 12), unfolded(stem, loop, 21)[place:][:12])


class Unrolled(unittest.TestCase):
    def test_counts(self):
        self.assertEqual(unrolled([A], [B, C], 0), ([A], [B, C]))
        self.assertEqual(unrolled([A], [B, C], 1), ([A, B], [C, B]))
        self.assertEqual(unrolled([A], [B, C], 2), ([A, B, C], [B, C]))
        self.assertEqual(unrolled([], [B, C], 3), ([B, C, B], [C, B]))
        self.assertEqual(unrolled([3], [0, 1, 2], 1000)[1], [1, 2, 0])
        self.assertEqual(unrolled([3], [0, 1, 2], 1000)[0], [3] + [0, 1, 2] * 333 + [0])

    def test_all_small_lassos(self):
        for stem, loop in number_lassos([0, 1, 2], [1, 2, 3]):
            for count in range(8):
                longer, turn = unrolled(stem, loop, count)
                self.assertEqual((len(longer), len(turn)), (len(stem) + count, len(loop)))
                self.assertEqual(unfolded(longer, turn, 20), unfolded(stem, loop, 20))


class Shortest(unittest.TestCase):
    def test_the_example(self):
        self.assertEqual(shortest([(0,), (1,)], [(2,), (1,), (2,), (1,)]),
                         ([(0,)], [(1,), (2,)]))

    def test_loops_that_repeat_a_shorter_loop(self):
        self.assertEqual(shortest([], [A] * 6), ([], [A]))
        self.assertEqual(shortest([C], [A, B] * 3), ([C], [A, B]))
        self.assertEqual(shortest([C], [A, B, B] * 2), ([C], [A, B, B]))
        self.assertEqual(shortest([], [A, B, A, A, B]), ([], [A, B, A, A, B]))
        self.assertEqual(shortest([], [A, B, A]), ([], [A, B, A]))

    def test_stems_whose_end_repeats_the_loop(self):
        self.assertEqual(shortest([A], [A]), ([], [A]))
        self.assertEqual(shortest([C, A, B, A, B], [A, B]), ([C], [A, B]))
        self.assertEqual(shortest([A, C, B], [A, C, B]), ([], [A, C, B]))
        self.assertEqual(shortest([C, B], [A, C, B]), ([], [C, B, A]))
        self.assertEqual(shortest([B] * 7, [A, B]), ([B] * 6, [B, A]))

    def test_stems_with_nothing_to_drop(self):
        self.assertEqual(shortest([A, B], [C]), ([A, B], [C]))
        self.assertEqual(shortest([], [C, A]), ([], [C, A]))

    def test_node_numbers_and_states_of_other_lengths(self):
        self.assertEqual(shortest([0, 1], [2, 1]), ([0], [1, 2]))
        self.assertEqual(shortest([(), (1,)], [(1, 2), (1,)]), ([()], [(1,), (1, 2)]))

    def test_all_small_lassos(self):
        lassos = number_lassos([0, 1, 2, 3], [1, 2, 3, 4])
        least = {}
        for stem, loop in sorted(lassos, key=lambda lasso: (len(lasso[1]), len(lasso[0]))):
            least.setdefault(tuple(unfolded(stem, loop, 30)), (stem, loop))
        for stem, loop in lassos:
            self.assertEqual(shortest(stem, loop), least[tuple(unfolded(stem, loop, 30))])

    def test_long_lassos(self):
        random = Random(31)
        loop = [random.randrange(2) for _ in range(700)] + [2]
        self.assertEqual(shortest([5] + loop * 5 + loop[:100], (loop[100:] + loop[:100]) * 6),
                         ([5], loop))
        self.assertEqual(shortest([0] * 20000, [0] * 20000), ([], [0]))


class SameRun(unittest.TestCase):
    def test_the_same(self):
        self.assertIs(same_run(([A], [B]), ([A, B], [B, B])), True)
        self.assertIs(same_run(([A], [B, A]), ([], [A, B])), True)
        self.assertIs(same_run(([], [1, 1]), ([], [1, 1, 1])), True)

    def test_not_the_same(self):
        self.assertIs(same_run(([A], [B]), ([B], [B])), False)
        self.assertIs(same_run(([], [A, B]), ([], [B, A])), False)
        self.assertIs(same_run(([A] * 10, [B]), ([A] * 11, [B])), False)
        self.assertIs(same_run(([], [()]), ([], [(0,)])), False)

    def test_all_small_lassos(self):
        lassos = number_lassos([0, 1, 2], [1, 2, 3])
        for one, other in product(lassos, lassos):
            self.assertIs(same_run(one, other), unfolded(*one, 10) == unfolded(*other, 10))

    def test_unrolled_lassos_and_suffixes(self):
        random = Random(32)
        for _ in range(200):
            stem = [random.randrange(3) for _ in range(random.randrange(5))]
            loop = [random.randrange(3) for _ in range(1 + random.randrange(5))]
            count = random.randrange(1001)
            longer = unrolled(stem, loop, count)
            self.assertIs(same_run((stem, loop), longer), True)
            self.assertIs(same_run(suffix(stem, loop, count), suffix(*longer, count)), True)


class Lists(unittest.TestCase):
    def test_arguments_are_not_changed(self):
        stem, loop = [A, B, C], [B, C, B, C]
        before = deepcopy((stem, loop))
        state_at(stem, loop, 9)
        suffix(stem, loop, 6)
        unrolled(stem, loop, 5)
        shortest(stem, loop)
        same_run((stem, loop), (stem, loop))
        self.assertEqual((stem, loop), before)

    def test_what_comes_back_is_a_tuple_of_two_new_lists(self):
        stem, loop = [A, B], [C, A]
        calls = [(suffix, 0), (suffix, 1), (suffix, 2), (suffix, 3), (unrolled, 0),
                 (unrolled, 2), (shortest,)]
        for function, *more in calls:
            found = function(stem, loop, *more)
            self.assertIsInstance(found, tuple)
            for part in found:
                self.assertIsInstance(part, list)
                part.append("more")
                self.assertEqual((stem, loop), ([A, B], [C, A]))

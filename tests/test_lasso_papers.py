import unittest
from random import Random

from lassoproof.papers.lassos import read_lasso, write_lasso
from tests.faults import told
from tests.papers import first_wrong_lasso_line, spoilt
from tests.test_certificate_papers import LARGE, wrong


def random_lasso(random):
    def state():
        return tuple(random.choice([0, 3, -1, 12, LARGE, -LARGE])
                     for _ in range(random.randrange(4)))

    return ([state() for _ in range(random.randrange(4))],
            [state() for _ in range(random.randrange(1, 4))])


class Writing(unittest.TestCase):
    def write(self, stem, loop, *lines):
        text = "\n".join(("fails",) + lines)
        self.assertEqual(write_lasso(stem, loop), text)
        self.assertEqual(read_lasso(text), (stem, loop))

    def test_lassos(self):
        self.write([(0,), (1,)], [(2,)], "stem 0", "stem 1", "loop 2")
        self.write([], [(2, -3), (0, 0)], "loop 2 -3", "loop 0 0")
        self.write([], [(5,)], "loop 5")

    def test_empty_states(self):
        self.write([], [()], "loop")
        self.write([(), ()], [(), ()], "stem", "stem", "loop", "loop")

    def test_states_of_different_lengths(self):
        self.write([(1,), ()], [(1, 2), (3,)], "stem 1", "stem", "loop 1 2", "loop 3")

    def test_eighteen_digits(self):
        self.write([(LARGE, -LARGE)], [(-10 ** 17, 10 ** 17)],
                   f"stem {LARGE} -{LARGE}", f"loop -{10 ** 17} {10 ** 17}")

    def test_random_lassos(self):
        random = Random(113)
        for _ in range(300):
            stem, loop = random_lasso(random)
            text = write_lasso(stem, loop)
            self.assertEqual(read_lasso(text), (stem, loop))
            self.assertIsNone(first_wrong_lasso_line(text))

    def test_arguments_are_not_changed_and_lists_are_new(self):
        stem, loop = [(0,)], [(1,), (2,)]
        text = write_lasso(stem, loop)
        self.assertEqual((stem, loop), ([(0,)], [(1,), (2,)]))
        found = read_lasso(text)
        self.assertIsInstance(found, tuple)
        for part in found:
            self.assertIsInstance(part, list)
            self.assertIsInstance(part[0], tuple)
            part.clear()
        self.assertEqual(read_lasso(text), (stem, loop))


class Reading(unittest.TestCase):
    def lines(self, line, *texts):
        for text in texts:
            self.assertEqual(told(read_lasso, text), wrong(line), text)
            self.assertEqual(first_wrong_lasso_line(text), line, text)

    def right(self, *texts):
        for text in texts:
            self.assertIsNone(told(read_lasso, text), text)
            self.assertIsNone(first_wrong_lasso_line(text), text)

    def test_the_first_line(self):
        self.lines(1, "", "\n", "fail", "Fails", "fails ", " fails", "fails 1", "holds", "loop 1",
                   "fails\r\nloop 1", "\nfails\nloop 1", "holds\nloop 1")

    def test_texts_that_end_too_early(self):
        self.lines(2, "fails")
        self.lines(3, "fails\nstem 0", "fails\nstem")
        self.lines(5, "fails\nstem 0\nstem 1\nstem 2")

    def test_empty_lines(self):
        self.lines(2, "fails\n", "fails\n\nloop 1", "fails\n \nloop 1")
        self.lines(3, "fails\nloop 1\n", "fails\nstem 0\n", "fails\nstem 0\n\nloop 0",
                   "fails\nloop 1\n\n", "fails\nloop 1\n\nloop 1")

    def test_stems_behind_loops(self):
        self.lines(3, "fails\nloop 1\nstem 1", "fails\nloop\nstem\nloop")
        self.lines(4, "fails\nstem 1\nloop 1\nstem 1")

    def test_lines(self):
        self.right("fails\nloop", "fails\nloop 0", "fails\nstem -1\nloop 0 10 -10")
        for word in ("stem", "loop"):
            self.lines(2, *[f"fails\n{line}\nloop 0" for line in [
                f"{word} ", f" {word} 0", f"{word}  0", f"{word} 0 ", f"{word} 0  1", f"{word}0",
                f"{word}:", f"{word} : 0", f"{word} x", f"{word} -0", f"{word} 00", f"{word} 01",
                f"{word} -01", f"{word} -", f"{word} --1", f"{word} +1", f"{word} {'1' * 19}",
                f"{word} -{'1' * 19}", f"{word} {'0' * 18}", f"{word} 1\r", f"{word}\t1",
                f"{word} 1_0", f"{word}s 1", f"{word.upper()} 1", "place 0 :", "once : 0", "fails",
                f"{word} \u0661", f"{word} 1.0", f"{word} 1,2",
            ]])

    def test_the_first_wrong_line_counts(self):
        self.lines(2, "fails\nstem x\nloop x\n")
        self.lines(3, "fails\nstem 0\nloop x\nstem 1", "fails\nstem 0\nfails")
        self.lines(1, "fail\nstem x")

    def test_spoilt_texts(self):
        random = Random(114)
        found = {True: 0, False: 0}
        for _ in range(4000):
            text = write_lasso(*random_lasso(random))
            for _ in range(random.randrange(1, 3)):
                text = spoilt(random, text)
            line = first_wrong_lasso_line(text)
            self.assertEqual(told(read_lasso, text), line and wrong(line), text)
            found[line is None] += 1
        self.assertGreater(min(found.values()), 300)

import unittest
from copy import deepcopy
from random import Random

from lassoproof.checking.verdicts import Certificate
from lassoproof.errors import InvalidPaper
from lassoproof.papers.certificates import read_certificate, write_certificate
from tests.faults import told
from tests.papers import first_wrong_certificate_line, spoilt

LARGE = 10 ** 18 - 1


def wrong(line):
    return ("InvalidPaper", {"line": line})


def fields(certificate):
    return certificate.places, certificate.blocks


def nested(levels):
    """Blocks with that many levels."""
    blocks = [("justice", 3, [levels], [])]
    for level in reversed(range(levels - 1)):
        blocks = [("compassion", level, [level, 7], blocks)]
    return blocks


def random_certificate(random):
    def blocks(depth):
        found = []
        for _ in range(random.randrange(3)):
            reason = random.choice(["once", "justice", "compassion"])
            number = 0 if reason == "once" else random.choice([0, 1, 20, LARGE])
            nodes = [random.choice([0, 1, 5, 10, LARGE]) for _ in range(random.randrange(4))]
            inner = blocks(depth - 1) if reason == "compassion" and depth else []
            found.append((reason, number, nodes, inner))
        return found

    places = [(tuple(random.choice([0, 3, -1, 12, LARGE, -LARGE]) for _ in range(random.randrange(4))),
               tuple(random.random() < 0.5 for _ in range(random.randrange(4))))
              for _ in range(random.randrange(4))]
    return Certificate(places, blocks(3))


class Writing(unittest.TestCase):
    def write(self, places, blocks, *lines):
        text = "\n".join(("holds",) + lines)
        self.assertEqual(write_certificate(Certificate(places, blocks)), text)
        self.assertEqual(fields(read_certificate(text)), (places, blocks))

    def test_the_place_of_the_document(self):
        self.write([((0, -1, 3), (True, False))], [], "place 0 -1 3 : 1 0")

    def test_nothing(self):
        self.write([], [])

    def test_places(self):
        self.write([((0,), ()), ((), (True,)), ((), ()), ((1, -2), (False, False))], [],
                   "place 0 :", "place : 1", "place :", "place 1 -2 : 0 0")

    def test_blocks(self):
        self.write([], [("once", 0, [0], []), ("justice", 2, [1, 3], []),
                        ("compassion", 0, [2], [])],
                   "once : 0", "justice 2 : 1 3", "compassion 0 : 2")

    def test_no_nodes(self):
        self.write([], [("once", 0, [], []), ("justice", 0, [], []), ("compassion", 7, [], [])],
                   "once :", "justice 0 :", "compassion 7 :")

    def test_inner_blocks(self):
        inner = [("once", 0, [1], []), ("compassion", 2, [4, 5], [("justice", 1, [5], [])]),
                 ("once", 0, [6], [])]
        self.write([((1,), (True,))], [("compassion", 0, [1, 2], inner), ("once", 0, [9], [])],
                   "place 1 : 1", "compassion 0 : 1 2", " once : 1", " compassion 2 : 4 5",
                   "  justice 1 : 5", " once : 6", "once : 9")

    def test_an_inner_block_behind_a_deep_one(self):
        deep = [("compassion", 1, [2], [("compassion", 2, [3], [])])]
        self.write([], [("compassion", 0, [1], deep), ("compassion", 0, [5], [])],
                   "compassion 0 : 1", " compassion 1 : 2", "  compassion 2 : 3",
                   "compassion 0 : 5")

    def test_nodes_in_any_order(self):
        self.write([((1,), ()), ((1, 2), (True,)), ((1,), ())], [("once", 0, [3, 1, 3], [])],
                   "place 1 :", "place 1 2 : 1", "place 1 :", "once : 3 1 3")

    def test_large_numbers(self):
        self.write([((LARGE, -LARGE), ())], [("justice", LARGE, [LARGE], [])],
                   f"place {LARGE} -{LARGE} :", f"justice {LARGE} : {LARGE}")

    def test_deep_blocks(self):
        for levels in (2, 40, 41):
            blocks = nested(levels)
            text = write_certificate(Certificate([], blocks))
            self.assertEqual(text.split("\n")[-1], " " * (levels - 1) + f"justice 3 : {levels}")
            self.assertEqual(read_certificate(text).blocks, blocks)

    def test_random_certificates(self):
        random = Random(111)
        for _ in range(300):
            certificate = random_certificate(random)
            text = write_certificate(certificate)
            self.assertEqual(fields(read_certificate(text)), fields(certificate))
            self.assertEqual(write_certificate(read_certificate(text)), text)
            self.assertIsNone(first_wrong_certificate_line(text))

    def test_a_certificate_is_not_changed(self):
        certificate = random_certificate(Random(3))
        before = deepcopy(fields(certificate))
        write_certificate(certificate)
        self.assertEqual(fields(certificate), before)


class Reading(unittest.TestCase):
    def test_kinds(self):
        found = read_certificate("holds\nplace 0 1 : 1 0\ncompassion 1 : 2\n once : 3")
        self.assertIsInstance(found, Certificate)
        (state, promises), = found.places
        self.assertIsInstance(found.places[0], tuple)
        self.assertEqual((state, promises), ((0, 1), (True, False)))
        for promise in promises:
            self.assertIsInstance(promise, bool)
        self.assertIsInstance(found.blocks[0], tuple)
        self.assertIsInstance(found.blocks[0][2], list)

    def test_the_lists_are_new(self):
        read_certificate("holds\nonce : 1").blocks[0][2].append(5)
        self.assertEqual(read_certificate("holds\nonce : 1").blocks, [("once", 0, [1], [])])

    def lines(self, line, *texts):
        """Looks whether all texts have this first wrong line."""
        for text in texts:
            self.assertEqual(told(read_certificate, text), wrong(line), text)
            self.assertEqual(first_wrong_certificate_line(text), line, text)

    def right(self, *texts):
        for text in texts:
            self.assertIsNone(told(read_certificate, text), text)
            self.assertIsNone(first_wrong_certificate_line(text), text)

    def test_the_first_line(self):
        self.right("holds")
        self.lines(1, "", "\n", "hold", "Holds", "holds ", " holds", "holds 1", "fails", "place :",
                   "holds\r", "\nholds", "fails\nloop", "once :\nholds")

    def test_the_end(self):
        self.lines(2, "holds\n", "holds\n\n", "holds\n ")
        self.lines(3, "holds\nplace 0 :\n", "holds\nonce : 0\n", "holds\nonce : 0\n\n")

    def test_places(self):
        self.right("holds\nplace :", "holds\nplace 0 :", "holds\nplace : 0", "holds\nplace -1 2 : 1 1")
        self.lines(2, *["holds\n" + line for line in [
            "place", "place 0", "place ", "place : ", "place  :", "place :  1", "place  0 :",
            "place 0  :", " place 0 :", "place 0 : ", "place 0 : 2", "place 0 : 01", "place 0 : -1",
            "place 0 : 1 : 1", "place : : ", "place::", "place:", "place 0:", "place 0 :1",
            "place x :", "place 0 : x", "Place 0 :", "places 0 :", "place 0 : true", "place +1 :",
            "place 1_0 :", "place 0 :\t1", "place\t0 :", "place 0 : 1\r", "place 0.0 :",
            "place \u0661 :", "place \u00b2 :",
        ]])

    def test_numbers_of_states(self):
        self.right(f"holds\nplace {LARGE} -{LARGE} 0 10 -1 :", "holds\nplace " + "1" * 18 + " :")
        self.lines(2, *[f"holds\nplace {word} :" for word in [
            "-0", "00", "01", "-01", "-", "--1", "1-", "-" + "1" * 19, "1" * 19, "0" * 18, "- 1",
            "1e3", "-00", "1" * 40,
        ]])

    def test_blocks(self):
        self.right("holds\nonce :", "holds\nonce : 0", "holds\njustice 0 :", "holds\ncompassion 3 : 1",
                   f"holds\njustice {LARGE} : {LARGE}")
        self.lines(2, *["holds\n" + line for line in [
            "once", "once:", "once 0 :", "once 0 : 1", "once : ", "once :  1", "once  : 1",
            "once : 1 ", "once : -1", "once : 01", "once : -0", "once : x", "once : 1 : 2",
            "justice", "justice :", "justice 0", "justice : 0", "justice 0 0 :", "justice -1 : 0",
            "justice -0 : 0", "justice 01 :", "justice x :", "justice 0 : " + "1" * 19,
            "justice " + "1" * 19 + " :", "compassion :", "compassion 0", "compassion  0 :",
            "compassion 0 : -3", "never : 1", "0 : 1", ": 1", "Once : 1", "once\t: 1",
            "compassion 0 : 1\r", "compassion \u0661 :",
        ]])

    def test_spaces_at_the_beginning(self):
        self.lines(2, "holds\n once : 0", "holds\n  once : 0", "holds\n compassion 0 : 0")
        self.lines(3, "holds\nonce : 0\n once : 1", "holds\njustice 0 : 0\n once : 1",
                   "holds\ncompassion 0 : 0\n  once : 1", "holds\nplace 0 :\n once : 1",
                   "holds\nplace 0 :\n place 0 :", "holds\ncompassion 0 : 0\n\tonce : 1")
        self.lines(4, "holds\ncompassion 0 : 0\n once : 1\n  once : 2",
                   "holds\ncompassion 0 : 0\nonce : 1\n once : 2")
        self.right("holds\ncompassion 0 : 0\n once : 1\n once : 2\nonce : 3",
                   "holds\ncompassion 0 : 0\n compassion 1 : 1\n  once : 2\nonce : 3",
                   "holds\ncompassion 0 : 0\n compassion 1 : 1\n once : 2\ncompassion 0 : 3\n once : 4")

    def test_at_most_forty_spaces(self):
        lines = [" " * level + "compassion 0 : 1" for level in range(43)]
        self.right("\n".join(["holds"] + lines[:41]))
        self.right("\n".join(["holds"] + lines[:41] + [lines[40], " " * 40 + "once : 1"]))
        self.lines(43, "\n".join(["holds"] + lines[:42]), "\n".join(["holds"] + lines))

    def test_places_behind_blocks(self):
        self.lines(3, "holds\nonce : 0\nplace 0 :", "holds\njustice 1 :\nplace :")
        self.lines(4, "holds\nplace 0 :\nonce : 0\nplace 1 :", "holds\nplace 0 :\nplace 1 :\nplace")

    def test_the_first_wrong_line_counts(self):
        self.lines(3, "holds\nplace 0 :\nplace\nonce\n", "holds\nplace 0 :\n\nplace 1 :")
        self.lines(1, "hold\nplace\nonce")

    def test_only_the_form_is_read(self):
        self.right("holds\nplace 0 : 1\nplace 0 1 :\nplace : 1 1 1\nonce : 5 3 3\njustice 99 : 7")

    def test_spoilt_texts(self):
        random = Random(112)
        found = {True: 0, False: 0}
        for _ in range(4000):
            text = write_certificate(random_certificate(random))
            for _ in range(random.randrange(1, 3)):
                text = spoilt(random, text)
            line = first_wrong_certificate_line(text)
            self.assertEqual(told(read_certificate, text), line and wrong(line), text)
            found[line is None] += 1
        self.assertGreater(min(found.values()), 300)

    def test_the_error(self):
        with self.assertRaises(InvalidPaper) as caught:
            read_certificate("holds\nplace")
        self.assertEqual(caught.exception.line, 2)

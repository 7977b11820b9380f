import unittest
from copy import deepcopy

from lassoproof.checking.verdicts import Certificate, Verdict

PLACES = [((0, 1), (True, False)), ((2, -1), (False, False))]
INNER = [("justice", 0, [1], []), ("compassion", 1, [4, 5], [("once", 0, [5], [])])]
BLOCKS = [("once", 0, [0], []), ("compassion", 2, [1, 2, 4, 5], INNER)]


def fields(verdict):
    return (verdict.holds, verdict.certificate, verdict.stem, verdict.loop)


def nested(levels):
    blocks = []
    for level in range(levels):
        blocks = [("compassion", level, [level], blocks)]
    return blocks


class Certificates(unittest.TestCase):
    def test_fields(self):
        certificate = Certificate(PLACES, BLOCKS)
        self.assertEqual(certificate.places, PLACES)
        self.assertEqual(certificate.blocks, BLOCKS)
        certificate = Certificate(places=[], blocks=[])
        self.assertEqual((certificate.places, certificate.blocks), ([], []))

    def test_places_of_a_graph(self):
        self.assertEqual(Certificate([(3, ()), (0, (True,))], []).places, [(3, ()), (0, (True,))])

    def test_lists_that_are_changed_later_have_no_effect(self):
        places, blocks = deepcopy(PLACES), deepcopy(BLOCKS)
        certificate = Certificate(places, blocks)
        places.append(((9,), ()))
        places[0] = ((8,), ())
        inner = blocks[1][3]
        inner[1][3][0][2].append(7)
        inner[1][3].append(("once", 0, [7], []))
        inner[1][2].clear()
        inner[0][2][0] = 3
        inner.append(("once", 0, [3], []))
        blocks[0][2].append(3)
        blocks[0][3].append(("once", 0, [3], []))
        blocks.pop()
        self.assertEqual((certificate.places, certificate.blocks), (PLACES, BLOCKS))

    def test_arguments_are_not_changed(self):
        places, blocks = deepcopy(PLACES), deepcopy(BLOCKS)
        certificate = Certificate(places, blocks)
        certificate.places.clear()
        certificate.blocks[1][3][1][2].append(9)
        certificate.blocks[0][3].append(("once", 0, [1], []))
        self.assertEqual((places, blocks), (PLACES, BLOCKS))

    def test_deeply_nested_blocks(self):
        self.assertEqual(Certificate([], nested(41)).blocks, nested(41))
        self.assertEqual(Certificate([], nested(90)).blocks, nested(90))


class Verdicts(unittest.TestCase):
    def test_a_verdict_that_holds(self):
        certificate = Certificate(PLACES, BLOCKS)
        verdict = Verdict(True, certificate, None, None)
        self.assertEqual(fields(verdict), (True, certificate, None, None))

    def test_the_very_certificate_is_kept(self):
        certificate = Certificate(PLACES, BLOCKS)
        self.assertIs(Verdict(True, certificate, None, None).certificate, certificate)

    def test_a_verdict_that_does_not_hold(self):
        verdict = Verdict(False, None, [(0,)], [(1,), (2,)])
        self.assertEqual(fields(verdict), (False, None, [(0,)], [(1,), (2,)]))
        verdict = Verdict(holds=False, certificate=None, stem=[], loop=[3])
        self.assertEqual(fields(verdict), (False, None, [], [3]))

    def test_lists_that_are_changed_later_have_no_effect(self):
        stem, loop = [(0,)], [(1,), (2,)]
        verdict = Verdict(False, None, stem, loop)
        stem.append((5,))
        loop[0] = (7,)
        loop.pop()
        self.assertEqual(fields(verdict), (False, None, [(0,)], [(1,), (2,)]))
        verdict.stem.clear()
        self.assertEqual(stem, [(0,), (5,)])

import unittest
from copy import deepcopy
from itertools import product
from random import Random

from lassoproof.checking.checker import accepts, is_fair_run, is_run, refutes
from lassoproof.checking.search import check
from lassoproof.checking.verdicts import Certificate
from lassoproof.formulas.rows import number_rows
from lassoproof.language.reader import read_formula
from lassoproof.systems.model import System
from lassoproof.systems.reader import read_system
from tests.fairness import all_blocks
from tests.faults import told, unknown
from tests.judging import is_refuted, is_right
from tests.systems import COUNTER, FAIR_LOCK, STAY, many_rows, random_atom, random_system
from tests.trees import random_formula

EMPTY = Certificate([], [])


def certificate_of(system, formula):
    return check(system, formula).certificate


def blocks_at(blocks, path):
    """The list in which the block of a path stands, and its index there."""
    for index in path[:-1]:
        blocks = blocks[index][3]
    return blocks, path[-1]


def paths(blocks, before=()):
    """The paths of indexes to all blocks."""
    found = []
    for index, block in enumerate(blocks):
        found.append(before + (index,))
        found += paths(block[3], before + (index,))
    return found


class Certificates(unittest.TestCase):
    def setUp(self):
        """A system, a formula that holds, and the places and the blocks of a certificate."""
        self.system = read_system(COUNTER + STAY + "\njustice x <> 0\ncompassion x = 1 : x = 2")
        self.formula = read_formula("G (x = 0 -> F x = 2) and X x < 2")
        self.take(certificate_of(self.system, self.formula))

    def take(self, certificate):
        self.places, self.blocks = certificate.places, certificate.blocks
        self.assertTrue(self.accepts(self.places, self.blocks))

    def accepts(self, places, blocks):
        """Whether a certificate is accepted, which has to be as point 7.5 says."""
        certificate = Certificate(places, blocks)
        found = accepts(self.system, self.formula, certificate)
        self.assertIsInstance(found, bool)
        self.assertIs(found, is_right(self.system, self.formula, certificate))
        return found

    def refuse(self, places, blocks):
        self.assertFalse(self.accepts(places, blocks))

    def test_places_in_another_order(self):
        count = len(self.places)
        for order in (list(reversed(range(count))), list(range(3, count)) + [0, 1, 2]):
            new_of = {old: new for new, old in enumerate(order)}

            def moved(blocks):
                return [(reason, number, sorted(new_of[node] for node in nodes), moved(inner))
                        for reason, number, nodes, inner in blocks]

            self.assertTrue(self.accepts([self.places[old] for old in order],
                                         moved(self.blocks)))
            self.refuse([self.places[old] for old in order], self.blocks)

    def test_a_place_left_out(self):
        for index in range(len(self.places)):
            def without(blocks):
                return [(reason, number, [node - (node > index) for node in nodes if node != index],
                         without(inner)) for reason, number, nodes, inner in blocks]

            kept = [block for block in without(self.blocks) if block[2]]
            self.refuse(self.places[:index] + self.places[index + 1:], kept)
            self.refuse(self.places[:index] + self.places[index + 1:], self.blocks)

    def test_a_place_twice(self):
        for index in range(len(self.places)):
            more = self.blocks + [("once", 0, [len(self.places)], [])]
            self.refuse(self.places + [self.places[index]], more)
            self.refuse(self.places + [self.places[index]], self.blocks)

    def test_a_place_more_than_needed(self):
        free = ((2,), (True, True, True))
        self.assertNotIn(free, self.places)
        self.refuse(self.places + [free], self.blocks)
        more = [("once", 0, [len(self.places)], [])]
        self.assertTrue(self.accepts(self.places + [free], self.blocks + more))
        formula, system = read_formula("x < 3"), read_system(COUNTER)
        self.assertTrue(accepts(system, formula, EMPTY))
        places = [((k,), ()) for k in range(3)]
        blocks = [("once", 0, [0], []), ("once", 0, [1], []), ("once", 0, [2], [])]
        self.assertFalse(accepts(system, formula, Certificate(places, blocks)))
        system = read_system(COUNTER + "\njustice x <> 2")
        blocks[2] = ("justice", 0, [2], [])
        self.assertTrue(accepts(system, formula, Certificate(places, blocks)))
        self.assertTrue(accepts(system, formula, Certificate(places[2:], [("justice", 0, [0], [])])))

    def test_states_out_of_range_and_of_other_lengths(self):
        for index, (state, promises) in enumerate(self.places):
            for other in [(3,), (-1,), (), state + (0,), (0,) + state, (10 ** 18,)]:
                places = list(self.places)
                places[index] = (other, promises)
                self.refuse(places, self.blocks)
        for other in [(3,), (), (0, 0)]:
            places = self.places + [(other, self.places[0][1])]
            self.refuse(places, self.blocks + [("once", 0, [len(self.places)], [])])
            self.refuse(places, self.blocks)

    def test_too_many_or_too_few_promises(self):
        for index, (state, promises) in enumerate(self.places):
            for other in [(), promises[:-1], promises + (False,), promises + promises]:
                places = list(self.places)
                places[index] = (state, other)
                self.refuse(places, self.blocks)
                self.refuse(self.places + [(state, other)], self.blocks)

    def test_other_promises(self):
        for index, (state, promises) in enumerate(self.places):
            for k in range(len(promises)):
                turned = promises[:k] + (not promises[k],) + promises[k + 1:]
                places = list(self.places)
                places[index] = (state, turned)
                self.refuse(places, self.blocks)

    def test_blocks_with_wrong_reasons_and_numbers(self):
        kinds = set()
        for path in paths(self.blocks):
            block = blocks_at(self.blocks, path)[0][path[-1]]
            kinds.add(block[0])
            for reason in ("once", "justice", "compassion", "", "never"):
                for number in range(-1, 6):
                    if (reason, number) != block[:2]:
                        blocks = deepcopy(self.blocks)
                        inside, index = blocks_at(blocks, path)
                        inside[index] = (reason, number, block[2], block[3])
                        self.accepts(self.places, blocks)
            for number in (-1, 17, 10 ** 18 - 1):
                blocks = deepcopy(self.blocks)
                inside, index = blocks_at(blocks, path)
                inside[index] = (block[0], number) + block[2:]
                self.refuse(self.places, blocks)
        self.assertEqual(kinds, {"once", "justice", "compassion"})

    def test_blocks_with_wrong_nodes(self):
        for path in paths(self.blocks):
            nodes = blocks_at(self.blocks, path)[0][path[-1]][2]
            for other in [[], nodes + [len(self.places)], nodes + nodes[-1:], [-1] + nodes,
                          nodes + [10 ** 18 - 1], nodes[1:], list(reversed(nodes)) + [nodes[0]]]:
                blocks = deepcopy(self.blocks)
                inside, index = blocks_at(blocks, path)
                inside[index] = inside[index][:2] + (other, inside[index][3])
                self.refuse(self.places, blocks)

    def test_blocks_left_out_and_twice(self):
        for path in paths(self.blocks):
            for change in ("out", "twice"):
                blocks = deepcopy(self.blocks)
                inside, index = blocks_at(blocks, path)
                if change == "out":
                    inside.pop(index)
                else:
                    inside.insert(index, inside[index])
                self.refuse(self.places, blocks)

    def test_blocks_in_another_order(self):
        found = set()
        for index in range(len(self.blocks) - 1):
            blocks = list(self.blocks)
            blocks[index:index + 2] = reversed(blocks[index:index + 2])
            found.add(self.accepts(self.places, blocks))
        found.add(self.accepts(self.places, list(reversed(self.blocks))))
        self.assertIn(False, found)

    def test_the_numbers_of_justice(self):
        # Lists of the system come before those of the rows, and rows of next have none.
        system = read_system("var x in 0..1 start 0\njustice x = 0\njustice true")
        formula = read_formula("X x = 0 and F x = 0 and G x <> 1")
        self.assertTrue(accepts(system, formula, certificate_of(system, formula)))
        rows = number_rows(formula)
        self.assertEqual([rows.rows[k][0] for k in rows.temporal], ["next", "eventually", "always"])
        self.system, self.formula = system, formula
        self.take(certificate_of(system, formula))
        numbers = {block[1] for block in all_blocks(self.blocks) if block[0] == "justice"}
        self.assertEqual(numbers, {3})
        for number in (0, 1, 2, 4, 5):
            self.refuse(self.places, [
                (block[0], number if block[0] == "justice" else 0) + block[2:]
                for block in self.blocks
            ])

    def test_certificates_of_another_formula(self):
        certificate = Certificate(self.places, self.blocks)
        for text in ["G F x = 2 and X x < 2", "F G x = 0", "false", "G (x = 0 -> F x = 1)",
                     "x = 1", "X x = 1 and X x = 0 and F x = 0"]:
            formula = read_formula(text)
            self.assertIs(accepts(self.system, formula, certificate),
                          is_right(self.system, formula, certificate), text)
        self.assertFalse(accepts(self.system, read_formula("X x = 1"), certificate))
        self.assertFalse(accepts(self.system, read_formula("false"), certificate))
        self.assertFalse(accepts(self.system, self.formula, EMPTY))

    def test_certificates_of_another_system(self):
        certificate = Certificate(self.places, self.blocks)
        for text in [COUNTER + STAY, COUNTER, FAIR_LOCK.replace("lock", "x"), "",
                     COUNTER + STAY + "\njustice x <> 0", "var x in 0..2 start 1",
                     COUNTER + STAY + "\ncompassion x = 1 : x = 2\njustice true",
                     "var x in 0..1 start 0\njustice x <> 0\ncompassion x = 1 : x = 1"]:
            system = read_system(text)
            if "x" in system.names:
                self.assertIs(accepts(system, self.formula, certificate),
                              is_right(system, self.formula, certificate))
        self.assertFalse(accepts(read_system(COUNTER + STAY), self.formula, certificate))
        self.assertFalse(accepts(with_one_more_variable(self.system), self.formula, certificate))

    def test_empty_certificates(self):
        for text, wanted in [("true", True), ("x = 0", True), ("x = 1", False), ("false", False),
                             ("not X false or x = 1", False), ("G true", False)]:
            formula = read_formula(text)
            self.assertIs(accepts(self.system, formula, EMPTY), wanted, text)
            self.assertIs(is_right(self.system, formula, EMPTY), wanted, text)
        self.assertFalse(accepts(self.system, ("true",), Certificate([], self.blocks[:1])))


def with_one_more_variable(system):
    """The same system with one variable more."""
    return System(system.variables + [("y", 0, 0, 0, 0)], system.processes,
                  system.justice, system.compassion)


class RandomCertificates(unittest.TestCase):
    def test_spoilt_certificates(self):
        random = Random(95)
        found = {True: 0, False: 0}
        asked = 0
        while asked < 150:
            system = random_system(random)
            formula = random_formula(random, 3, lambda: random_atom(random, system.names))
            if len(number_rows(formula).temporal) > 2:
                continue
            verdict = check(system, formula)
            if verdict.holds and verdict.certificate.places:
                asked += 1
                for _ in range(4):
                    spoilt = self.spoil(random, verdict.certificate)
                    held = accepts(system, formula, spoilt)
                    self.assertIs(held, is_right(system, formula, spoilt))
                    found[held] += 1
                    if held:
                        self.assertTrue(verdict.holds)
        self.assertGreater(min(found.values()), 20)

    def spoil(self, random, certificate):
        """The certificate with one random change."""
        places, blocks = list(certificate.places), deepcopy(certificate.blocks)
        inside, index = blocks_at(blocks, random.choice(paths(blocks)))
        reason, number, nodes, inner = inside[index]
        kind = random.randrange(6)
        if kind == 0:
            inside[index] = (random.choice(["once", "justice", "compassion"]), number, nodes, inner)
        elif kind == 1:
            inside[index] = (reason, random.randrange(4), nodes, inner)
        elif kind == 2:
            random.shuffle(inside)
        elif kind == 3:
            nodes.append(random.randrange(len(places)))
            nodes.sort()
        elif kind == 4:
            other = inside[random.randrange(len(inside))]
            moved = [node for node in nodes if node not in other[2]]
            other[2][:] = sorted(other[2] + moved)
            if other is not inside[index]:
                inside.pop(index)
        else:
            place = random.randrange(len(places))
            places[place] = (places[place][0], random.choice(places)[1])
        return Certificate(places, blocks)

    def test_no_lasso_refutes_a_formula_with_a_certificate(self):
        random = Random(96)
        for _ in range(60):
            system = random_system(random)
            formula = random_formula(random, 3, lambda: random_atom(random, system.names))
            verdict = check(system, formula)
            states = list(product(range(3), repeat=len(system.names)))
            for _ in range(60):
                stem = [random.choice(states) for _ in range(random.randrange(3))]
                loop = [random.choice(states) for _ in range(1 + random.randrange(3))]
                held = refutes(system, formula, stem, loop)
                self.assertIs(held, is_refuted(system, formula, stem, loop))
                self.assertFalse(held and verdict.holds)


class Lassos(unittest.TestCase):
    def setUp(self):
        self.system = read_system(COUNTER + STAY + "\njustice x <> 1\ncompassion x = 0 : x = 2")

    def tell(self, stem, loop, formula="false"):
        """Whether a lasso is a run, is fair, and refutes a formula."""
        found = (is_run(self.system, stem, loop), is_fair_run(self.system, stem, loop),
                 refutes(self.system, read_formula(formula), stem, loop))
        for one in found:
            self.assertIsInstance(one, bool)
        self.assertIs(found[2], is_refuted(self.system, read_formula(formula), stem, loop))
        return found

    def test_fair_runs(self):
        everything = (True, True, True)
        self.assertEqual(self.tell([(0,), (1,)], [(2,)]), everything)
        self.assertEqual(self.tell([(0,), (0,), (1,), (1,), (2,)], [(2,), (2,)]), everything)
        self.assertEqual(self.tell([(0,), (1,)], [(2,)], "G x < 2"), everything)
        self.assertEqual(self.tell([(0,), (1,)], [(2,)], "F x = 2"), (True, True, False))
        self.assertEqual(self.tell([(0,), (1,)], [(2,)], "X x = 1"), (True, True, False))
        self.assertEqual(self.tell([(0,), (1,)], [(2,)], "X X x = 1"), everything)

    def test_runs_that_are_not_fair(self):
        self.assertEqual(self.tell([(0,)], [(1,)]), (True, False, False))
        self.assertEqual(self.tell([], [(0,)]), (True, False, False))
        self.assertEqual(self.tell([(0,)], [(0,), (0,)]), (True, False, False))
        self.system = read_system(COUNTER + STAY + "\ncompassion x = 0 : x = 2")
        self.assertEqual(self.tell([(0,)], [(1,)]), (True, True, True))
        self.assertEqual(self.tell([], [(0,)]), (True, False, False))

    def test_no_runs(self):
        for stem, loop in [
            ([(1,)], [(2,)]), ([], [(2,)]), ([(0,)], [(2,)]), ([(0,), (1,)], [(2,), (1,)]),
            ([(0,), (1,), (2,), (1,)], [(2,)]), ([(0,)], [(1,), (2,)]), ([(0,), (1,)], [(3,)]),
            ([(0,), (1,), (3,)], [(2,)]), ([(0,), (1,), ()], [(2,)]), ([()], [()]), ([], [()]),
            ([(0,), (1,)], [(2, 2)]), ([(0, 0), (1, 1)], [(2, 2)]), ([(0,), (1,)], [(2,), ()]),
            ([(0,), (-1,), (1,)], [(2,)]), ([(0,), (10 ** 18 - 1,)], [(2,)]), ([(-5,)], [(2,)]),
        ]:
            self.assertEqual(self.tell(stem, loop), (False, False, False), (stem, loop))

    def test_a_path_without_a_loop(self):
        self.assertIs(is_run(self.system, [(0,), (1,), (2,)], []), False)
        self.assertIs(is_run(self.system, [], []), False)

    def test_the_end_of_the_loop(self):
        self.system = read_system("var x in 0..3 start 0..1\nprocess p\n"
                                  "when x < 3 do x := x + 1\nwhen x = 3 do x := 1")
        for stem, loop, wanted in [
            ([(0,)], [(1,), (2,), (3,)], True), ([], [(1,), (2,), (3,)], True),
            ([(0,), (1,)], [(2,), (3,), (1,)], True), ([], [(0,), (1,), (2,), (3,)], False),
            ([(0,)], [(1,)], False), ([(0,)], [(1,), (2,)], False), ([], [(2,), (3,), (1,)], False),
        ]:
            self.assertEqual(self.tell(stem, loop), (wanted,) * 3, (stem, loop))

    def test_no_variables(self):
        self.system = read_system("")
        self.assertEqual(self.tell([], [()]), (True, True, True))
        self.assertEqual(self.tell([()], [(), ()], "F true"), (True, True, False))
        self.assertEqual(self.tell([], [(0,)]), (False, False, False))
        self.system = read_system("justice false")
        self.assertEqual(self.tell([], [()]), (True, False, False))

    def test_fairness_looks_at_the_loop_alone(self):
        self.system = read_system(COUNTER + STAY + "\njustice x = 0")
        self.assertEqual(self.tell([(0,), (1,)], [(2,)]), (True, False, False))
        self.assertEqual(self.tell([(0,)], [(0,)]), (True, True, True))
        self.system = read_system(COUNTER + STAY + "\ncompassion x = 0 : false")
        self.assertEqual(self.tell([(0,), (1,)], [(2,)]), (True, True, True))

    def test_many_temporal_rows(self):
        formula = many_rows(30)
        self.assertIs(refutes(self.system, formula, [(0,), (1,)], [(2,)]), True)
        self.assertIs(refutes(self.system, ("not", formula), [(0,), (1,)], [(2,)]), False)

    def test_long_lassos(self):
        stem = [(0,)] * 5000 + [(1,)] * 5000
        self.assertIs(refutes(self.system, read_formula("G x < 2"), stem, [(2,)] * 3000), True)
        self.assertIs(is_run(self.system, stem, [(2,)] * 3000 + [(1,)]), False)


class Errors(unittest.TestCase):
    def test_unknown_names(self):
        system = read_system(COUNTER)
        for text, name in [("y = 1", "y"), ("F b > a", "a"), ("true or G z = x", "z")]:
            formula = read_formula(text)
            for certificate in (EMPTY, Certificate([((9, 9), ())], [("x", 7, [5], [])])):
                self.assertEqual(told(accepts, system, formula, certificate), unknown(name))
            for lasso in [([(0,), (1,)], [(2,)]), ([(7, 7)], [()]), ([], [(1,)])]:
                self.assertEqual(told(refutes, system, formula, *lasso), unknown(name))

    def test_many_temporal_rows(self):
        system = read_system(COUNTER)
        self.assertIsNone(told(accepts, system, many_rows(12), EMPTY))
        for count in (13, 25):
            for certificate in (EMPTY, Certificate([((9, 9), ())], [])):
                self.assertEqual(told(accepts, system, many_rows(count), certificate),
                                 ("TooManyPromises", {"count": count}))
            self.assertEqual(told(accepts, system, many_rows(count, "y"), EMPTY), unknown("y"))
            self.assertEqual(told(refutes, system, many_rows(count, "y"), [], [(0,)]), unknown("y"))
            self.assertIsNone(told(refutes, system, many_rows(count), [], [(0,)]))


class Bounds(unittest.TestCase):
    def test_many_initial_states(self):
        system = read_system("var x in 0..99999 start 0..99999\njustice false")
        self.assertTrue(accepts(system, read_formula("x >= 0"), EMPTY))
        self.assertFalse(accepts(system, read_formula("x < 99999"), EMPTY))
        place = [((99999,), ())]
        self.assertTrue(accepts(system, read_formula("x < 99999"),
                                Certificate(place, [("justice", 0, [0], [])])))
        self.assertFalse(accepts(system, read_formula("x < 99998"),
                                 Certificate(place, [("justice", 0, [0], [])])))


class Arguments(unittest.TestCase):
    def test_arguments_are_not_changed(self):
        system, formula = read_system(FAIR_LOCK), read_formula("G (a = 1 -> F a = 2)")
        certificate = certificate_of(system, formula)
        stem, loop = [(0, 0, 0)], [(1, 0, 0), (2, 0, 1)]
        before = deepcopy((certificate.places, certificate.blocks, stem, loop, formula))
        self.assertTrue(accepts(system, formula, certificate))
        is_run(system, stem, loop)
        is_fair_run(system, stem, loop)
        refutes(system, formula, stem, loop)
        self.assertEqual((certificate.places, certificate.blocks, stem, loop, formula), before)

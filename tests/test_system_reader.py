import unittest
from random import Random

from lassoproof.language.reader import read_condition, read_term
from lassoproof.language.tokens import scan
from lassoproof.systems.reader import read_system
from tests import grammar
from tests.faults import duplicate, invalid, kind, shared, syntax, told, unknown

TRUE = ("true",)

FULL = """
var x in -3..4 start -1..2

var y in 0..1 start 1
process p

a: when x < 2 and y = 1 do x := x + 1, y := min(x, 0)
when true do skip


process q
process r
a: when true do skip
b : when x = 0 do skip
justice x > 0

compassion x = 0 : y = 1
justice not y = 0
"""


def lines(*texts):
    return "\n".join(texts)


class Reading(unittest.TestCase):
    def test_example(self):
        system = read_system("var x in 0..2 start 0\nprocess p\nwhen x < 2 do x := x + 1")
        self.assertEqual([system.successors((1,)), system.successors((2,))], [[(2,)], [(2,)]])

    def test_example_of_an_error(self):
        self.assertEqual(told(read_system, "var x in 0..1 start 2"), invalid("x"))

    def test_all_fields(self):
        system = read_system(FULL)
        self.assertEqual(system.variables, [("x", -3, 4, -1, 2), ("y", 0, 1, 1, 1)])
        self.assertEqual(system.names, ["x", "y"])
        self.assertEqual(system.processes, [
            ("p", [
                ("a", read_condition("x < 2 and y = 1"),
                 [("x", read_term("x + 1")), ("y", read_term("min(x, 0)"))]),
                ("", TRUE, []),
            ]),
            ("q", []),
            ("r", [("a", TRUE, []), ("b", read_condition("x = 0"), [])]),
        ])
        self.assertEqual(system.justice, [read_condition("x > 0"), read_condition("not y = 0")])
        self.assertEqual(system.compassion, [(read_condition("x = 0"), read_condition("y = 1"))])

    def test_nothing_at_all(self):
        for text in ["", "  ", "\n", "\n \n\n"]:
            system = read_system(text)
            fields = [system.variables, system.processes, system.justice, system.compassion]
            self.assertEqual(fields, [[], [], [], []])

    def test_start(self):
        for text, values in [
            ("start 1", (1, 1)), ("start 1..1", (1, 1)), ("start 0..3", (0, 3)),
            ("start -2..-1", (-2, -1)), ("start - 2 .. 003", (-2, 3)), ("start -0", (0, 0)),
        ]:
            system = read_system("var x in -5..5 " + text)
            self.assertEqual(system.variables, [("x", -5, 5) + values], text)

    def test_spaces_do_not_matter(self):
        system = read_system("var x in-1 ..1 start 0\nprocess  p\na:when x=0 do x:=x+1")
        self.assertEqual(system.variables, [("x", -1, 1, 0, 0)])
        self.assertEqual(system.processes,
                         [("p", [("a", read_condition("x = 0"), [("x", read_term("x + 1"))])])])

    def test_large_numbers(self):
        large = "9" * 18
        system = read_system(f"var x in -{large}..{large} start -{large}..{large}")
        low, high = 1 - 10 ** 18, 10 ** 18 - 1
        self.assertEqual(system.variables, [("x", low, high, low, high)])

    def test_a_process_without_a_line_behind_it(self):
        self.assertEqual(read_system("process p").processes, [("p", [])])
        self.assertEqual(read_system("process p\nwhen true do skip").processes,
                         [("p", [("", TRUE, [])])])

    def test_empty_lines_everywhere(self):
        first, second = read_system(FULL), read_system("\n\n" + FULL.replace("\n", "\n \n\n"))
        self.assertEqual(first.variables, second.variables)
        self.assertEqual(first.processes, second.processes)
        self.assertEqual(first.justice, second.justice)
        self.assertEqual(first.compassion, second.compassion)

    def test_names_of_processes_variables_and_labels_may_be_the_same(self):
        system = read_system(lines("var a in 0..1 start 0", "process a", "a: when a = 0 do a := 1"))
        self.assertEqual(system.successors((0,)), [(1,)])


class SyntaxFaults(unittest.TestCase):
    def check(self, *cases):
        for text, place in cases:
            self.assertEqual(told(read_system, text), syntax(place), text)

    def test_declarations(self):
        self.check(
            ("x in 0..1", 0), ("var in", 4), ("var 1", 4), ("var x 0..1", 6), ("var x in x..1", 9),
            ("var x in 0.1", 10), ("var x in 0 1", 11), ("var x in 0..", 12),
            ("var x in 0..--1", 13), ("var x in 0..1", 13), ("var x in 0..1 0", 14),
            ("var x in 0..1 start", 19), ("var x in 0..1 start 0..", 23),
            ("var x in 0..1 start 0 1", 22), ("var x in 0..1 start 0, y", 21),
            ("var x in 0..1 start (0)", 20), ("var x in 0..1 start 0+1", 21),
            ("var x in 0..1 start +1", 20), ("var x in 0..1 start 0..1..2", 24),
            ("var min in 0..1", 4), ("var X in 0..1", 4), ("var U", 4), ("var Xa in 0..1", 4),
        )

    def test_commands(self):
        start = "process p\n"
        for text, place in [
            ("a when", 2), ("a: b: when", 3), (": when", 0), ("a: do", 3), ("when do", 5),
            ("when true skip", 10), ("when true do", 12), ("when true do skip, skip", 17),
            ("when true do skip x := 1", 18), ("when true do x = 1", 15),
            ("when true do x := 1,", 20), ("when true do x := 1, skip", 21),
            ("when true do x := 1 y := 2", 20), ("when true do 1 := x", 13),
            ("when true do x :=", 17), ("when true : skip", 10), ("when x = 1 = 2 do skip", 11),
            ("when (true do skip", 11), ("when true) do skip", 9), ("skip", 0), ("do skip", 0),
            ("min: when true do skip", 0), ("when true do x := min(1, 2, 3)", 26),
        ]:
            self.check((start + text, len(start) + place))

    def test_fairness(self):
        self.check(
            ("justice", 7), ("justice true : true", 13), ("justice true, true", 12),
            ("compassion", 10), ("compassion true", 15), ("compassion true :", 17),
            ("compassion : true", 11), ("compassion true, true", 15),
            ("compassion true := true", 16), ("compassion true : true : true", 23),
            ("justice true justice true", 13), ("justice x = 0 do", 14),
        )

    def test_the_order_of_the_parts(self):
        self.check(
            ("process p\nvar x in 0..1 start 0", 10), ("justice true\nprocess p", 13),
            ("justice true\nvar x in 0..1 start 0", 13), ("when true do skip", 0),
            ("a: when true do skip", 0), ("justice true\nwhen true do skip", 13),
            ("var x in 0..1 start 0\nwhen true do skip", 22),
            ("compassion true : true\na: when true do skip", 23),
        )

    def test_newlines_at_the_wrong_place(self):
        self.check(
            ("var\nx in 0..1 start 0", 3), ("var x in 0..1\nstart 0", 13),
            ("var x in 0..1 start 0..\n1", 23), ("process\np", 7),
            ("process p\na:\nwhen true do skip", 12), ("process p\nwhen\ntrue do skip", 14),
            ("process p\nwhen true\ndo skip", 19), ("process p\nwhen true do\nskip", 22),
            ("process p\nwhen true do x := 1,\ny := 1", 30), ("justice\ntrue", 7),
            ("process p\nwhen (true\n) do skip", 20), ("justice true and\ntrue", 16),
            ("compassion true\n: true", 15), ("compassion true :\ntrue", 17),
        )

    def test_newlines_that_are_missing(self):
        self.check(
            ("var x in 0..1 start 0 var y", 22), ("process p when true do skip", 10),
            ("process p process q", 10), ("process p\nwhen true do skip when", 28),
            ("process p\nwhen true do skip justice true", 28),
            ("var x in 0..1 start 0 process p", 22), ("process p justice true", 10),
        )

    def test_texts_that_end_too_early(self):
        text = "process p\na: when x < 1 do x := x + 1, y := 1"
        for end in [7, 11, 12, 17, 19, 21, 23, 26, 28, 31, 35, 38, 40, 43]:
            self.check((text[:end], end))
        self.check(("var x in 0..1 start 0\nprocess", 29), ("compassion true :  ", 19))

    def test_temporal_words(self):
        for word in "XFG":
            self.check((f"justice {word} true", 8), (f"compassion true : {word} true", 18),
                       (f"process p\nwhen {word} true do skip", 15),
                       (f"process p\nwhen true do x := {word} 1", 28), (f"process {word}", 8))
        for word in "URWM":
            self.check((f"justice true {word} true", 13),
                       (f"process p\nwhen true {word} true do skip", 20),
                       (f"process p\nwhen true do x := 1 {word} 1", 30))

    def test_faults_of_tokens(self):
        self.check(("var x in 0...1", 12), ("var x in 0..1\tstart 0", 13), ("justice x = 1a", 12),
                   ("process p\n$", 10), ("\r\nprocess p", 0), ("var x y $", 6))

    def test_syntax_faults_come_first(self):
        self.check(
            ("var x in 1..0 start 0\njustice 1\njustice", 39), ("justice 1\njustice a = 1 b", 24),
            ("var x in 1..0 start 0\nvar", 25),
        )

    def test_against_the_grammar(self):
        random = Random(12)
        faults = 0
        for _ in range(1200):
            wild = random.choice([0, 0.02, 0.1])
            words = grammar.random_words(random, grammar.SYSTEM, "system", 40, wild)
            text = " ".join(words)
            place = grammar.first_fault(grammar.SYSTEM, "system", scan(text))
            found = told(read_system, text)
            if place is None:
                self.assertNotEqual("SyntaxFault", found and found[0], text)
            else:
                faults += 1
                self.assertEqual(found, syntax(place), text)
        self.assertGreater(faults, 200)
        self.assertLess(faults, 1100)


class KindFaults(unittest.TestCase):
    def check(self, text, place):
        self.assertEqual(told(read_system, text), kind(place), text)

    def test_terms_and_conditions(self):
        self.check("justice 1", 8)
        self.check("justice x + 1", 10)
        self.check("compassion 1 : true", 11)
        self.check("compassion true : x", 18)
        self.check("process p\nwhen x do skip", 15)
        self.check("process p\nwhen true do x := true", 28)
        self.check("process p\nwhen true do x := 1 = 2", 30)
        self.check("process p\nwhen true do x := 1, y := 1 and true", 38)
        self.check("process p\nwhen true + 1 = 2 do skip", 20)

    def test_the_least_place_of_several(self):
        self.check("process p\nwhen true do x := true, y := 1 + true\nwhen 1 do skip\njustice 2", 28)
        self.check("justice true and (1 and 2)\njustice 1", 20)
        self.check("justice true\njustice not 1\ncompassion 1 : 2", 21)
        self.check("compassion true : 2\njustice 1", 18)
        self.check("justice (true + 1) = 2 and 1", 14)
        self.check("justice true or x = (1 = (2 and 3))", 18)

    def test_they_come_before_the_errors_of_making_a_system(self):
        self.check("var x in 1..0 start 0\nvar x in 0..1 start 0\njustice 1", 52)
        self.check("process p\nwhen a = 1 do b := 1\nprocess p\njustice 1", 49)


class ErrorsOfMaking(unittest.TestCase):
    def check(self, expected, *texts):
        self.assertEqual(told(read_system, lines(*texts)), expected)

    def test_variables(self):
        self.check(duplicate("x"), "var x in 0..1 start 0", "var x in 0..1 start 0")
        self.check(invalid("y"), "var x in 0..1 start 0", "var y in 1..0 start 0")
        self.check(invalid("x"), "var x in 0..1 start 1..0")
        self.check(invalid("x"), "var x in 0..1 start -1..1", "process p", "process p")

    def test_processes(self):
        self.check(duplicate("p"), "process p", "process p", "when a = 1 do skip")
        self.check(unknown("a"), "process p", "when a = 1 do b := 1")
        self.check(unknown("z"), FULL.replace("do skip", "do z := 1"))
        self.check(duplicate("x"), "var x in 0..1 start 0", "process p",
                   "when true do x := 1, x := 0")

    def test_labels_and_fairness(self):
        self.check(shared("a", "x"), "var x in 0..1 start 0", "process p", "a: when true do x := 0",
                   "process q", "a: when true do x := 1", "justice b = 1")
        self.check(unknown("b"), "justice true", "compassion true : a > b and a = 1")
        self.check(unknown("a"), "compassion b = 1 : true", "justice a = 1")

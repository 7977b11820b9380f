import unittest
from random import Random
from re import sub

from lassoproof.language.reader import read_condition, read_formula, read_term
from lassoproof.language.tokens import scan
from tests import grammar
from tests.faults import kind, syntax, told

A, B, C, D = [("name", name) for name in "abcd"]


def comparison(name):
    return ("equal", ("name", name), ("number", 1))


P, Q, R, S = [comparison(name) for name in "pqrs"]


def formula(text):
    """Reads a formula in which p, q, r, s stand for comparisons with 1."""
    return read_formula(sub(r"\b[pqrs]\b", lambda name: f"{name.group()} = 1", text))


class Examples(unittest.TestCase):
    def test_a_formula(self):
        self.assertEqual(
            read_formula("G (x = 1 -> F y > 0)"),
            ("always", ("implies", ("equal", ("name", "x"), ("number", 1)),
                        ("eventually", ("below", ("number", 0), ("name", "y"))))),
        )

    def test_a_syntax_fault(self):
        self.assertEqual(told(read_formula, "x = 1 and"), syntax(9))

    def test_a_fault_of_kind(self):
        self.assertEqual(told(read_formula, "x + 1"), kind(2))


class Terms(unittest.TestCase):
    def test_each_operator(self):
        for text, tree in [
            ("0", ("number", 0)), ("007", ("number", 7)), ("a", A),
            ("a + b", ("plus", A, B)), ("a - b", ("minus", A, B)), ("a * b", ("times", A, B)),
            ("-a", ("negative", A)), ("a div 2", ("quotient", A, 2)),
            ("a mod 03", ("remainder", A, 3)), ("min(a, b)", ("least", A, B)),
            ("max(a,b)", ("most", A, B)), ("(a)", A), ("((a))", A),
        ]:
            self.assertEqual(read_term(text), tree, text)

    def test_one_level_in_a_row_goes_to_the_left(self):
        self.assertEqual(read_term("a - b - c"), ("minus", ("minus", A, B), C))
        self.assertEqual(read_term("a - b + c"), ("plus", ("minus", A, B), C))
        self.assertEqual(read_term("a * b * c"), ("times", ("times", A, B), C))
        self.assertEqual(read_term("a div 2 * b"), ("times", ("quotient", A, 2), B))
        self.assertEqual(
            read_term("a * b mod 5 div 2"),
            ("quotient", ("remainder", ("times", A, B), 5), 2),
        )

    def test_levels(self):
        self.assertEqual(read_term("a + b * c"), ("plus", A, ("times", B, C)))
        self.assertEqual(read_term("a * b + c"), ("plus", ("times", A, B), C))
        self.assertEqual(read_term("-a * b"), ("times", ("negative", A), B))
        self.assertEqual(read_term("-a div 2"), ("quotient", ("negative", A), 2))
        self.assertEqual(read_term("a * -b"), ("times", A, ("negative", B)))
        self.assertEqual(read_term("a - -b"), ("minus", A, ("negative", B)))
        self.assertEqual(read_term("a--b"), ("minus", A, ("negative", B)))
        self.assertEqual(read_term("--a"), ("negative", ("negative", A)))
        self.assertEqual(read_term("-5"), ("negative", ("number", 5)))
        self.assertEqual(read_term("-a - b"), ("minus", ("negative", A), B))
        self.assertEqual(read_term("-(a + b)"), ("negative", ("plus", A, B)))

    def test_brackets(self):
        self.assertEqual(read_term("a - (b - c)"), ("minus", A, ("minus", B, C)))
        self.assertEqual(read_term("(a + b) * c"), ("times", ("plus", A, B), C))
        self.assertEqual(
            read_term("min(a + b, max(c, (d))) mod 4"),
            ("remainder", ("least", ("plus", A, B), ("most", C, D)), 4),
        )


class Formulas(unittest.TestCase):
    def test_comparisons(self):
        for text, tree in [
            ("a = b", ("equal", A, B)), ("a <> b", ("not", ("equal", A, B))),
            ("a < b", ("below", A, B)), ("a <= b", ("upto", A, B)),
            ("a > b", ("below", B, A)), ("a >= b", ("upto", B, A)),
            ("a + 1 > b * 2", ("below", ("times", B, ("number", 2)), ("plus", A, ("number", 1)))),
            ("-a >= b", ("upto", B, ("negative", A))),
        ]:
            self.assertEqual(read_condition(text), tree, text)
            self.assertEqual(read_formula(text), tree, text)

    def test_each_operator(self):
        for text, tree in [
            ("true", ("true",)), ("false", ("false",)), ("not p", ("not", P)),
            ("p and q", ("and", P, Q)), ("p or q", ("or", P, Q)), ("p -> q", ("implies", P, Q)),
            ("p <-> q", ("same", P, Q)), ("X p", ("next", P)), ("F p", ("eventually", P)),
            ("G p", ("always", P)), ("p U q", ("until", P, Q)), ("p R q", ("release", P, Q)),
            ("p W q", ("unless", P, Q)), ("p M q", ("strong", P, Q)),
        ]:
            self.assertEqual(formula(text), tree, text)

    def test_one_level_in_a_row_goes_to_the_left(self):
        for sign, word in [("and", "and"), ("or", "or"), ("<->", "same")]:
            self.assertEqual(formula(f"p {sign} q {sign} r"), (word, (word, P, Q), R))

    def test_one_level_in_a_row_goes_to_the_right(self):
        for sign, word in [("->", "implies"), ("U", "until"), ("R", "release"), ("W", "unless"),
                           ("M", "strong")]:
            self.assertEqual(formula(f"p {sign} q {sign} r"), (word, P, (word, Q, R)))
        self.assertEqual(
            formula("p U q R r W s"), ("until", P, ("release", Q, ("unless", R, S))),
        )

    def test_levels(self):
        self.assertEqual(formula("p <-> q -> r"), ("same", P, ("implies", Q, R)))
        self.assertEqual(formula("p -> q <-> r"), ("same", ("implies", P, Q), R))
        self.assertEqual(formula("p -> q or r"), ("implies", P, ("or", Q, R)))
        self.assertEqual(formula("p or q -> r"), ("implies", ("or", P, Q), R))
        self.assertEqual(formula("p or q and r"), ("or", P, ("and", Q, R)))
        self.assertEqual(formula("p and q or r"), ("or", ("and", P, Q), R))
        self.assertEqual(formula("p and q U r"), ("and", P, ("until", Q, R)))
        self.assertEqual(formula("p U q and r"), ("and", ("until", P, Q), R))
        self.assertEqual(formula("not p U q"), ("until", ("not", P), Q))
        self.assertEqual(formula("p U not q R r"), ("until", P, ("release", ("not", Q), R)))
        self.assertEqual(formula("X p and q"), ("and", ("next", P), Q))
        self.assertEqual(formula("X F G not p"),
                         ("next", ("eventually", ("always", ("not", P)))))
        self.assertEqual(formula("not p"), ("not", P))
        self.assertEqual(formula("(p -> q) -> r"), ("implies", ("implies", P, Q), R))
        self.assertEqual(formula("(p U q) U r"), ("until", ("until", P, Q), R))

    def test_operators_before_an_operand_take_a_whole_comparison(self):
        self.assertEqual(
            read_formula("not a + b = c"), ("not", ("equal", ("plus", A, B), C)),
        )
        self.assertEqual(read_formula("X a <> b"), ("next", ("not", ("equal", A, B))))
        self.assertEqual(read_formula("not - a = - b"),
                         ("not", ("equal", ("negative", A), ("negative", B))))

    def test_long_rows(self):
        self.assertEqual(read_formula("not " * 30 + "true")[0], "not")
        self.assertEqual(read_formula("(" * 20 + "true" + ")" * 20), ("true",))


class SyntaxFaults(unittest.TestCase):
    def check(self, read, cases):
        for text, place in cases:
            self.assertEqual(told(read, text), syntax(place), text)

    def test_at_the_end_of_the_text(self):
        self.check(read_formula, [
            ("", 0), ("   ", 3), ("a = 1 and", 9), ("a = 1 and  ", 11), ("a =", 3), ("not", 3),
            ("(a = 1", 6), ("min(a", 5), ("min(a, b", 8), ("min", 3), ("a div", 5), ("X", 1),
        ])

    def test_at_the_first_token_that_cannot_follow(self):
        self.check(read_formula, [
            ("a b", 2), ("a 1", 2), ("(a = 1))", 7), (") a", 0), ("a = b = c", 6),
            ("a < b <= c = d", 6), ("not a = b = c", 10), ("a and b = c = d", 12),
            ("a + not b", 4), ("a = not b", 4), ("a = X b", 4), ("- not a", 2), ("a * F b", 4),
            ("a and and b", 6), ("(a, b)", 2), ("min(a)", 5), ("min(a, b, c)", 8), ("min a", 4),
            ("a := 1", 2), ("a : b", 2), ("a .. b", 2), ("true false", 5), ("a not b", 2),
            ("var = 1", 0), ("a = process", 4), ("a = 1\n", 5), ("\na = 1", 0), ("a =\n 1", 3),
            ("()", 1), ("(a = 1 and)", 10), ("a <- -> b", 5), ("+ a", 0), ("not not", 7),
        ])

    def test_only_a_number_from_1_on_stands_after_div_and_mod(self):
        self.check(read_term, [
            ("a div 0", 6), ("a mod 000", 6), ("a div b", 6), ("a mod -2", 6), ("a div (2)", 6),
            ("a div 0 div 0", 6), ("a div 2 mod 0", 12), ("a div min(2, 3)", 6),
        ])
        self.assertEqual(read_term("a div 001"), ("quotient", A, 1))

    def test_a_fault_of_tokens_cannot_stand_anywhere(self):
        self.check(read_formula, [
            ("a = $", 4), ("a = 1 $", 6), ("$", 0), ("a = 12x", 4), ("a = .", 4), ("a =\t1", 3),
            ("a = Abc", 4), ("a = " + "1" * 19, 4),
        ])

    def test_an_earlier_token_counts_before_a_fault_of_tokens(self):
        self.check(read_formula, [("a = = $", 4), ("a b $", 2), ("a = 1 ) 12x", 6)])

    def test_temporal_words_stand_in_formulas_only(self):
        for word in ["X", "F", "G"]:
            self.assertIsNone(told(read_formula, f"{word} a = 1"))
            self.check(read_condition, [
                (f"{word} a = 1", 0), (f"true and {word} a = 1", 9), (f"({word} a = 1)", 1),
            ])
            self.check(read_term, [(f"{word} a", 0), (f"min({word} a, 1)", 4)])
        for word in ["U", "R", "W", "M"]:
            self.assertIsNone(told(read_formula, f"true {word} a = 1"))
            self.check(read_condition, [(f"true {word} a = 1", 5), (f"(a {word} b)", 3)])
            self.check(read_term, [(f"a {word} b", 2)])

    def test_an_earlier_token_counts_before_a_temporal_word(self):
        self.check(read_condition, [("a = = F", 4), ("a b U", 2)])

    def test_a_syntax_fault_counts_before_faults_of_kind(self):
        self.check(read_formula, [("(true + 1) and", 14), ("not 1 and 2 )", 12)])

    def test_against_the_grammar(self):
        random = Random(1)
        for read, rules in [(read_formula, grammar.FORMULA), (read_condition, grammar.CONDITION),
                            (read_term, grammar.CONDITION)]:
            for _ in range(700):
                wild = random.choice([0, 0.05, 0.2])
                words = grammar.random_words(random, rules, "text", 14, wild)
                text = random.choice([" ", "  "]).join(words)
                place = grammar.first_fault(rules, "text", scan(text))
                found = told(read, text)
                if place is None:
                    self.assertNotEqual("SyntaxFault", found and found[0], text)
                else:
                    self.assertEqual(found, syntax(place), text)


class KindFaults(unittest.TestCase):
    def check(self, read, cases):
        for text, place in cases:
            self.assertEqual(told(read, text), kind(place), text)

    def test_the_whole_of_the_wrong_kind(self):
        self.check(read_formula, [
            ("1", 0), ("x", 0), (" (x)", 2), ("((7))", 2), ("x + 1", 2), ("-x", 0), ("(x - 1)", 3),
            ("min(x, 1)", 0), ("x * 2 + 1", 6), ("x div 2", 2), ("(x) mod 2", 4), ("--x", 0),
        ])
        self.check(read_condition, [("1", 0), ("x + 1", 2), ("max(x, 1)", 0)])
        self.check(read_term, [
            ("true", 0), ("(false)", 1), ("x = 1", 2), ("x <> 1", 2), ("x > 1", 2), ("not x = 1", 0),
            ("x = 1 and y = 1", 6), ("(x = 1) or true", 8),
        ])

    def test_each_operator_between_truths(self):
        for sign in ["and", "or", "->", "<->", "U", "R", "W", "M"]:
            self.check(read_formula, [
                (f"x {sign} true", 2), (f"true {sign} x", 5), (f"x {sign} y", 2),
                (f"(x + 1) {sign} true", 8),
            ])

    def test_each_operator_before_a_truth(self):
        for sign in ["not", "X", "F", "G"]:
            self.check(read_formula, [(f"{sign} x", 0), (f"{sign} (x + 1)", 0),
                                      (f"true and {sign} x", 9)])

    def test_each_operator_between_numbers(self):
        for sign in ["+", "-", "*"]:
            self.check(read_term, [(f"true {sign} x", 5), (f"x {sign} true", 2)])
            self.check(read_formula, [(f"1 = x {sign} (y = 1)", 6)])
        for sign in ["=", "<>", "<", "<=", ">", ">="]:
            self.check(read_formula, [(f"true {sign} x", 5), (f"x {sign} true", 2),
                                      (f"x {sign} (y = 1)", 2)])

    def test_the_other_operators_of_numbers(self):
        self.check(read_term, [
            ("true div 2", 5), ("(x = 1) mod 2", 8), ("-true", 0), ("-(x = 1)", 0),
            ("min(true, 1)", 0), ("1 + max(1, false)", 4), ("min(x = 1, y)", 0),
        ])

    def test_an_operator_with_a_wrong_operand_keeps_its_own_kind(self):
        self.check(read_formula, [
            ("x = 1 and (true + 1) = 2", 16), ("not (1 and 2)", 7), ("true = true", 5),
            ("(true and 1) and true", 6), ("x + (true < 1) = 1", 2),
        ])

    def test_the_least_place_counts(self):
        self.check(read_formula, [
            ("(1 and true) + (true and 2)", 3), ("x + 1 and true + 1 = 1", 6),
            ("true + 1 = 2 and x", 5), ("1 + (x = 1)", 2), ("min(x, not y) = 1", 0),
            ("(x = 1) + 1", 8),
        ])
        self.check(read_term, [("true and 1", 5), ("1 = 1 and 1", 6), ("not 1", 0)])

    def test_the_place_of_the_whole_is_that_of_its_outermost_operator(self):
        self.check(read_formula, [("(x + 1) * (y - 2)", 8), ("min(a, b) - max(a, b)", 10)])
        self.check(read_term, [("x = 1 -> y = 1 -> z = 1", 6), ("true and true and true", 14),
                               ("a = 1 <-> b = 1 <-> c = 1", 16)])

    def test_against_expressions_in_full_brackets(self):
        random = Random(2)
        for _ in range(1500):
            text, found, place, faults = mixed(random, random.randrange(1, 5))
            for read, wanted in [(read_formula, "truth"), (read_term, "number")]:
                if read == read_term and any(word in text for word in "XFGURWM"):
                    continue
                places = faults + ([place] if found != wanted else [])
                expected = kind(min(places)) if places else None
                self.assertEqual(told(read, text), expected, text)


def mixed(random, depth):
    """A random text in full brackets: the text, its kind, its place, its faults of kind."""
    if depth == 0 or random.random() < 0.1:
        text = random.choice(["x", "12", "true", "false"])
        return text, "truth" if text[0] in "tf" else "number", 0, []
    sign = random.choice(
        "+ - * = <> < <= > >= and or -> <-> U R W M not X F G neg div mod min max".split()
    )
    kinds = "number" if sign in "+ - * neg div mod min max".split() else "truth"
    truths = sign in "and or -> <-> U R W M not X F G".split()
    wanted = "truth" if truths else "number"
    first, first_kind, first_place, faults = mixed(random, depth - 1)
    if sign in ["not", "X", "F", "G", "neg"]:
        word = "-" if sign == "neg" else sign
        text, place, faults = f"{word} ({first})", 0, [k + len(word) + 2 for k in faults]
        return text, kinds, place, faults + ([0] if first_kind != wanted else [])
    if sign in ["div", "mod"]:
        text, place, faults = f"({first}) {sign} 3", len(first) + 3, [k + 1 for k in faults]
        return text, kinds, place, faults + ([place] if first_kind != wanted else [])
    second, second_kind, second_place, more = mixed(random, depth - 1)
    if sign in ["min", "max"]:
        text = f"{sign}({first}, {second})"
        place, ahead, between = 0, 4, 4 + len(first) + 2
    else:
        text = f"({first}) {sign} ({second})"
        place, ahead, between = len(first) + 3, 1, len(first) + 3 + len(sign) + 2
    faults = [k + ahead for k in faults] + [k + between for k in more]
    wrong = first_kind != wanted or second_kind != wanted
    return text, kinds, place, faults + ([place] if wrong else [])

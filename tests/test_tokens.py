import unittest

from lassoproof.language.tokens import tokenize
from tests.faults import syntax, told


def kinds(text):
    return [token[:2] for token in tokenize(text)]


class Tokens(unittest.TestCase):
    def test_example(self):
        self.assertEqual(
            tokenize("x<->y"),
            [("name", "x", 0), ("sign", "<->", 1), ("name", "y", 4), ("end", "", 5)],
        )

    def test_empty_text_and_spaces(self):
        self.assertEqual(tokenize(""), [("end", "", 0)])
        self.assertEqual(tokenize("   "), [("end", "", 3)])
        self.assertEqual(tokenize("  a  "), [("name", "a", 2), ("end", "", 5)])

    def test_numbers(self):
        self.assertEqual(tokenize("0 7 042"), [
            ("number", 0, 0), ("number", 7, 2), ("number", 42, 4), ("end", "", 7),
        ])

    def test_eighteen_digits_are_a_number(self):
        self.assertEqual(kinds("9" * 18), [("number", 10 ** 18 - 1), ("end", "")])
        self.assertEqual(kinds("0" * 17 + "5"), [("number", 5), ("end", "")])

    def test_nineteen_digits_are_none(self):
        self.assertEqual(told(tokenize, "x + " + "1" * 19), syntax(4))
        self.assertEqual(told(tokenize, "0" * 18 + "5"), syntax(0))
        self.assertEqual(told(tokenize, "1" * 40), syntax(0))

    def test_digits_that_touch_a_letter_or_an_underscore(self):
        for text in ["12x", "12X", "12_", "1true", "0U"]:
            self.assertEqual(told(tokenize, "  " + text), syntax(2))

    def test_names(self):
        for name in ["a", "aB", "a1", "a_", "a_B_9", "xX", "trues", "not_", "min1", "dO", "vaR"]:
            self.assertEqual(kinds(name), [("name", name), ("end", "")])

    def test_words(self):
        words = (
            "true false not and or div mod min max X F G U R W M "
            "var in start process when do skip justice compassion"
        ).split()
        self.assertEqual(len(words), 25)
        for word in words:
            self.assertEqual(kinds(word), [("word", word), ("end", "")])

    def test_candidates_that_are_neither_names_nor_words(self):
        for text in ["_", "_a", "__", "Xa", "X1", "XF", "G_", "True", "A", "Z", "AND", "Y"]:
            self.assertEqual(told(tokenize, "ab " + text), syntax(3), text)

    def test_signs(self):
        signs = "( ) , : := .. + - * = <> < <= > >= -> <->".split()
        self.assertEqual(len(signs), 17)
        for sign in signs:
            self.assertEqual(tokenize(sign), [("sign", sign, 0), ("end", "", len(sign))])
            self.assertEqual(kinds(f"x{sign}y"), [
                ("name", "x"), ("sign", sign), ("name", "y"), ("end", ""),
            ])

    def test_signs_are_as_long_as_possible(self):
        def signs(text):
            return [value for _, value in kinds(text)[:-1]]

        self.assertEqual(signs("<-"), ["<", "-"])
        self.assertEqual(signs("<->="), ["<->", "="])
        self.assertEqual(signs("<=>"), ["<=", ">"])
        self.assertEqual(signs("<>="), ["<>", "="])
        self.assertEqual(signs("-->"), ["-", "->"])
        self.assertEqual(signs("<-->"), ["<", "-", "->"])
        self.assertEqual(signs("::="), [":", ":="])
        self.assertEqual(signs(":=="), [":=", "="])
        self.assertEqual(signs("...."), ["..", ".."])
        self.assertEqual(signs(">>="), [">", ">="])

    def test_numbers_beside_dots(self):
        self.assertEqual(tokenize("0..2"), [
            ("number", 0, 0), ("sign", "..", 1), ("number", 2, 3), ("end", "", 4),
        ])

    def test_lines(self):
        self.assertEqual(tokenize("a\n\n b"), [
            ("name", "a", 0), ("line", "", 1), ("line", "", 2), ("name", "b", 4), ("end", "", 5),
        ])

    def test_single_dots(self):
        self.assertEqual(told(tokenize, "."), syntax(0))
        self.assertEqual(told(tokenize, "x . y"), syntax(2))
        self.assertEqual(told(tokenize, "0...2"), syntax(3))
        self.assertEqual(told(tokenize, "a. ."), syntax(1))

    def test_other_characters(self):
        for text in ["\t", "\r", "!", "%", "/", ";", "'", '"', "[", "&", "|", "\0", "\x0b", "\f",
                     "\u00e9", "\u0661", "\u00b2", "\u00a0", "\u2028"]:
            self.assertEqual(told(tokenize, "a " + text), syntax(2), repr(text))
            self.assertEqual(told(tokenize, "a" + text + "b"), syntax(1), repr(text))
            self.assertEqual(told(tokenize, "7" + text), syntax(1), repr(text))

    def test_the_first_fault_counts(self):
        self.assertEqual(told(tokenize, "a ! 12x"), syntax(2))
        self.assertEqual(told(tokenize, "a 12x !"), syntax(2))

    def test_the_list_is_new(self):
        first = tokenize("a b")
        first.append("more")
        self.assertEqual(len(tokenize("a b")), 3)

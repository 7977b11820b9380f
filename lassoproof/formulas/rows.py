"""Numbering the subformulas of a formula (point 2.3)."""

from lassoproof.language.operators import COMPARISONS
from lassoproof.language.writer import write_formula

PLAIN_WORDS = ("true", "false", "fact", "not", "and", "or", "implies", "same")


class Rows:
    """The facts and the rows of a formula, and the numbers of its temporal rows."""

    def __init__(self, facts, rows):
        self.facts = list(facts)
        self.rows = list(rows)
        self.temporal = [
            number for number, (word, _, _) in enumerate(rows) if word not in PLAIN_WORDS
        ]


class Numbering:
    """The facts and the rows that were found so far, and the numbers under which they stand.

    Trees are too deep to be keys: a comparison is known by its text, and a row by its triple.
    """

    def __init__(self):
        self.facts = []
        self.rows = []
        self.fact_numbers = {}
        self.row_numbers = {}

    def number_of_fact(self, comparison):
        """The number of a comparison among the facts."""
        text = write_formula(comparison)
        if text not in self.fact_numbers:
            self.fact_numbers[text] = len(self.facts)
            self.facts.append(comparison)
        return self.fact_numbers[text]

    def number_of_row(self, row):
        """The number of a row."""
        if row not in self.row_numbers:
            self.row_numbers[row] = len(self.rows)
            self.rows.append(row)
        return self.row_numbers[row]

    def number_of_formula(self, formula):
        """The number of the row of a formula, behind the rows of its parts."""
        if formula[0] in COMPARISONS:
            return self.number_of_row(("fact", self.number_of_fact(formula), -1))
        numbers = [self.number_of_formula(part) for part in formula[1:]]
        left, right = (numbers + [-1, -1])[:2]
        return self.number_of_row((formula[0], left, right))


def number_rows(formula):
    """The Rows of a formula."""
    numbering = Numbering()
    numbering.number_of_formula(formula)
    return Rows(numbering.facts, numbering.rows)


def formula_of(rows, number):
    """The tree that a row stands for."""
    trees = []
    for row in rows.rows[:number + 1]:
        trees.append(tree_of(row, rows.facts, trees))
    return trees[number]


def tree_of(row, facts, trees):
    """The tree of a row, from the trees of the rows before it."""
    word, left, right = row
    if word == "fact":
        return facts[left]
    return (word, *[trees[number] for number in (left, right) if number >= 0])

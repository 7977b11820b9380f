"""The interface of the document: where each name is defined, and with which parameters."""

import inspect
import unittest
from importlib import import_module

FUNCTIONS = {
    "lassoproof.language.tokens": {"tokenize": "(text)"},
    "lassoproof.language.reader": {
        "read_term": "(text)", "read_condition": "(text)", "read_formula": "(text)",
    },
    "lassoproof.language.values": {
        "names_in": "(tree)", "is_condition": "(formula)", "value": "(term, values)",
        "truth": "(condition, values)",
    },
    "lassoproof.language.writer": {"write_term": "(term)", "write_formula": "(formula)"},
    "lassoproof.formulas.rows": {
        "Rows": "(facts, rows)", "number_rows": "(formula)", "formula_of": "(rows, number)",
    },
    "lassoproof.formulas.positive": {"positive": "(formula)", "negated": "(formula)"},
    "lassoproof.formulas.shrink": {"size": "(formula)", "shrink": "(formula)"},
    "lassoproof.lassos.words": {
        "state_at": "(stem, loop, place)", "suffix": "(stem, loop, place)",
        "unrolled": "(stem, loop, count)", "shortest": "(stem, loop)", "same_run": "(one, other)",
    },
    "lassoproof.lassos.meaning": {
        "truths_along": "(formula, names, stem, loop)", "true_on": "(formula, names, stem, loop)",
    },
    "lassoproof.lassos.progress": {"moved_on": "(formula, names, state)"},
    "lassoproof.graphs.walks": {
        "reachable": "(after, starts)", "distances": "(after, starts)",
        "shortest_path": "(after, starts, goals)",
    },
    "lassoproof.graphs.components": {"components": "(after, members)"},
    "lassoproof.graphs.rounds": {"round_trip": "(after, members, targets)"},
    "lassoproof.systems.reader": {"read_system": "(text)"},
    "lassoproof.systems.writer": {"write_system": "(system)"},
    "lassoproof.systems.space": {
        "Space": "(states, starts, after)", "explore": "(system, *, limit=2000)",
    },
    "lassoproof.fairness.cycles": {"is_fair": "(loop, *, justice, compassion)"},
    "lassoproof.fairness.blocks": {
        "accepts_blocks": "(after, nodes, blocks, *, justice, compassion)",
    },
    "lassoproof.fairness.search": {"find_fair": "(after, starts, *, justice, compassion)"},
    "lassoproof.checking.truths": {
        "complete": "(rows, facts, promises)", "promised": "(rows, truths)",
        "settled": "(rows, number, truths)",
    },
    "lassoproof.checking.verdicts": {
        "Certificate": "(places, blocks)", "Verdict": "(holds, certificate, stem, loop)",
    },
    "lassoproof.checking.search": {
        "check": "(system, formula, *, limit=2000)",
        "check_graph": "(after, starts, facts, rows, *, justice, compassion)",
    },
    "lassoproof.checking.checker": {
        "accepts": "(system, formula, certificate)", "is_run": "(system, stem, loop)",
        "is_fair_run": "(system, stem, loop)", "refutes": "(system, formula, stem, loop)",
    },
    "lassoproof.papers.certificates": {
        "write_certificate": "(certificate)", "read_certificate": "(text)",
    },
    "lassoproof.papers.lassos": {"write_lasso": "(stem, loop)", "read_lasso": "(text)"},
    "lassoproof.papers.audit": {
        "write_answer": "(verdict)", "audit": "(system, formula, text)",
    },
    "lassoproof.classes.partition": {
        "rounds_apart": "(after, labels)", "classes": "(after, labels)",
    },
    "lassoproof.classes.telling": {
        "telling": "(after, labels, one, other)", "truths_of": "(after, labels, rows)",
    },
    "lassoproof.classes.quotient": {
        "Quotient": "(class_of, after, starts, labels)", "quotient": "(after, starts, labels)",
    },
    "lassoproof.classes.lifting": {
        "lift_lasso": "(after, starts, class_of, stem, loop)",
        "check_by_classes": "(system, formula, *, limit=2000)",
    },
    "lassoproof.branching.formulas": {"number_branches": "(formula)"},
    "lassoproof.branching.answers": {
        "Answer": "(truths, ranks)", "answer": "(after, facts, rows)",
        "answer_system": "(system, formula, *, limit=2000)",
    },
    "lassoproof.branching.checker": {"accepts_answer": "(after, facts, rows, found)"},
    "lassoproof.systems.model": {"System": "(variables, processes, justice, compassion)"},
    "lassoproof.errors": {
        "SyntaxFault": "(place)", "KindFault": "(place)", "UnknownName": "(name)",
        "DuplicateName": "(name)", "InvalidRange": "(name)",
        "SharedAssignment": "(label, name)", "TooManyStates": "(limit)",
        "TooManyPromises": "(count)", "InvalidPaper": "(line)",
    },
}
METHODS = {
    ("lassoproof.systems.model", "System"): {
        "initial_states": "(self)", "truth": "(self, condition, state)",
        "successors": "(self, state)",
    },
}


class Interface(unittest.TestCase):
    def test_functions_and_classes(self):
        for module, names in FUNCTIONS.items():
            for name, parameters in names.items():
                found = getattr(import_module(module), name)
                self.assertEqual(str(inspect.signature(found)), parameters, name)
                self.assertEqual(found.__module__, module)

    def test_methods_are_defined_in_the_class_itself(self):
        for (module, name), methods in METHODS.items():
            for method, parameters in methods.items():
                found = vars(getattr(import_module(module), name))[method]
                self.assertEqual(str(inspect.signature(found)), parameters, method)

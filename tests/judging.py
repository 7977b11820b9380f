"""Certificates and lassos judged by the words of points 7.1 to 7.8, for tests."""

from itertools import product

from lassoproof.formulas.rows import Rows, formula_of, number_rows
from tests.fairness import accepted, is_fair_part
from tests.graphs import is_closed_walk, is_walk
from tests.runs import meaning

PLAIN = ("true", "false", "fact", "not", "and", "or", "implies", "same")


def all_tuples(count):
    return list(product((False, True), repeat=count))


def row_truths(rows, facts, promises):
    """The truths of all rows by point 7.2."""
    left_over = list(promises)
    found = []
    for word, a, b in rows.rows:
        f, g = (found[a] if a >= 0 and word != "fact" else None), (found[b] if b >= 0 else None)
        p = None if word in PLAIN else left_over.pop(0)
        found.append({
            "true": lambda: True, "false": lambda: False, "fact": lambda: facts[a],
            "not": lambda: not f, "and": lambda: f and g, "or": lambda: f or g,
            "implies": lambda: g or not f, "same": lambda: f == g,
            "next": lambda: p, "eventually": lambda: f or p, "always": lambda: f and p,
            "until": lambda: g or (f and p), "unless": lambda: g or (f and p),
            "release": lambda: g and (f or p), "strong": lambda: g and (f or p),
        }[word]())
    return found


def promises_before(rows, truths):
    """What the place before promises, by point 7.1."""
    temporal = [k for k, row in enumerate(rows.rows) if row[0] not in PLAIN]
    return tuple(truths[rows.rows[k][1] if rows.rows[k][0] == "next" else k] for k in temporal)


def is_settled(row, truths, held):
    """Whether a row is settled, by point 7.3; None for next."""
    word, a, b = row
    if word == "eventually":
        return not held or truths[a]
    if word == "until":
        return not held or truths[b]
    if word == "strong":
        return not held or (truths[a] and truths[b])
    if word == "always":
        return held or not truths[a]
    if word == "release":
        return held or not truths[b]
    if word == "unless":
        return held or (not truths[a] and not truths[b])
    return None


class Judge:
    """A graph of anything with facts, and what point 7.5 says of product places in it."""

    def __init__(self, rows, following, initial, facts_at, justice, compassion):
        self.rows = rows
        self.following = following
        self.initial = initial
        self.facts_at = facts_at
        self.justice = justice
        self.compassion = compassion
        self.count = len([row for row in rows.rows if row[0] not in PLAIN])

    def truths(self, place):
        return row_truths(self.rows, self.facts_at(place[0]), place[1])

    def starting(self):
        places = [(node, p) for node in self.initial for p in all_tuples(self.count)]
        return [place for place in places if not self.truths(place)[-1]]

    def after(self, place):
        places = [(node, q) for node in self.following(place[0]) for q in all_tuples(self.count)]
        return [(node, q) for node, q in places
                if promises_before(self.rows, self.truths((node, q))) == place[1]]

    def accepts(self, certificate):
        """Whether a certificate of proper places is right."""
        places = certificate.places
        if len(set(places)) < len(places) or any(len(p) != self.count for _, p in places):
            return False
        index = {place: k for k, place in enumerate(places)}
        if any(place not in index for place in self.starting()):
            return False
        edges = []
        for place in places:
            ahead = self.after(place)
            if any(one not in index for one in ahead):
                return False
            edges.append(sorted(index[one] for one in ahead))
        justice = [[k for k, (node, _) in enumerate(places) if wanted(node)]
                   for wanted in self.justice]
        for number, row in enumerate(self.rows.rows):
            if row[0] not in PLAIN and row[0] != "next":
                found = [self.truths(place) for place in places]
                justice.append([k for k, truths in enumerate(found)
                                if is_settled(row, truths, truths[number])])
        compassion = [tuple([k for k, (node, _) in enumerate(places) if wanted(node)]
                            for wanted in pair) for pair in self.compassion]
        return accepted(edges, list(range(len(places))), certificate.blocks, justice, compassion)


def judge_of_graph(after, starts, facts, rows, justice, compassion):
    def among(nodes):
        return lambda node: node in nodes

    return Judge(rows, lambda node: after[node], starts, lambda node: facts[node],
                 [among(nodes) for nodes in justice],
                 [(among(first), among(second)) for first, second in compassion])


def judge_of_system(system, formula):
    def where(condition):
        return lambda state: system.truth(condition, state)

    rows = number_rows(formula)
    return Judge(rows, system.successors, system.initial_states(),
                 lambda state: [system.truth(fact, state) for fact in rows.facts],
                 [where(condition) for condition in system.justice],
                 [(where(first), where(second)) for first, second in system.compassion])


def is_right(system, formula, certificate):
    """Whether a certificate is accepted for a system, by point 7.5."""
    for state, _ in certificate.places:
        if len(state) != len(system.variables):
            return False
        if not all(low <= n <= high for n, (_, low, high, _, _) in zip(state, system.variables)):
            return False
    return judge_of_system(system, formula).accepts(certificate)


def is_refuted(system, formula, stem, loop):
    """Whether a lasso refutes a formula on a system, by point 7.6."""
    states = stem + loop
    if states[0] not in system.initial_states():
        return False
    for state, ahead in zip(states, states[1:] + [loop[0]]):
        if ahead not in system.successors(state):
            return False
    for condition in system.justice:
        if not any(system.truth(condition, state) for state in loop):
            return False
    for first, second in system.compassion:
        if any(system.truth(first, state) for state in loop):
            if not any(system.truth(second, state) for state in loop):
                return False
    return not meaning(formula, system.names, stem, loop, 0)


def graph_is_refuted(after, starts, facts, rows, justice, compassion, stem, loop):
    """Whether a lasso of nodes is right, by point 7.8; fact k stands as `vk = 1` here."""
    nodes = stem + loop
    if nodes[0] not in starts or not is_walk(after, nodes) or not is_closed_walk(after, loop):
        return False
    if not is_fair_part(loop, justice, compassion):
        return False
    names = [f"v{k}" for k in range(len(rows.facts))]
    named = Rows([("equal", ("name", name), ("number", 1)) for name in names], rows.rows)
    formula = formula_of(named, len(rows.rows) - 1)
    stem_states, loop_states = [
        [tuple(int(truth) for truth in facts[node]) for node in part] for part in (stem, loop)
    ]
    return not meaning(formula, names, stem_states, loop_states, 0)

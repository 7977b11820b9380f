"""The places of a certificate, as its checker asks for them (point 7.5)."""

from lassoproof.checking.outlooks import Outlooks
from lassoproof.checking.product import product_compassion, product_justice
from lassoproof.checking.truths import settling_rows
from lassoproof.systems.states import fairness_in, is_state, truths_in


class Claim:
    """The product places that a certificate lists.

    nodes numbers their states, places are pairs of a node and the number of the promises, and
    tables has for each node a dict from the numbers of its promises to indexes of places.
    """

    def __init__(self, system, rows):
        self.system = system
        self.rows = rows
        self.nodes = {}
        self.places = []
        self.tables = []
        self._known = Outlooks(rows)
        self._outlook_of = {}

    def takes(self, listed):
        """Takes the places of a certificate; tells whether each has its form and stands once."""
        number_of = {promises: number for number, promises in enumerate(self._known.promises)}
        for state, promises in listed:
            if promises not in number_of or not is_state(self.system, state):
                return False
            number = number_of[promises]
            table = self.table_to_fill(state)
            if number in table:
                return False
            table[number] = len(self.places)
            self.places.append((self.nodes[state], number))
        return True

    def table_to_fill(self, state):
        """The table of a state, which gets a number if it has none yet."""
        if state not in self.nodes:
            self.nodes[state] = len(self.tables)
            self.tables.append({})
        return self.tables[self.nodes[state]]

    def view(self, state):
        """The outlook of the places at a state, and the table of those that were taken."""
        if state not in self._outlook_of:
            facts = truths_in(self.system, self.rows.facts, state)
            self._outlook_of[state] = self._known.outlook(facts)
        table = self.tables[self.nodes[state]] if state in self.nodes else {}
        return self._outlook_of[state], table

    def has_starting(self):
        """Whether every product place that starts was taken."""
        for state in self.system.initial_states():
            outlook, table = self.view(state)
            if not all(number in table for number in outlook.starting):
                return False
        return True

    def edges(self):
        """For each place the places that follow it, or None if one of these was not taken."""
        views = [
            [self.view(ahead) for ahead in self.system.successors(state)] for state in self.nodes
        ]
        edges = []
        for node, number in self.places:
            found = []
            for outlook, table in views[node]:
                for chosen in outlook.following(number):
                    if chosen not in table:
                        return None
                    found.append(table[chosen])
            edges.append(sorted(found))
        return edges

    def fairness(self):
        """Justice and compassion of the product."""
        states = list(self.nodes)
        justice, compassion = fairness_in(self.system, states)
        outlooks = [self.view(state)[0] for state in states]
        count = len(settling_rows(self.rows))
        return (
            product_justice(self.places, outlooks, justice, count),
            product_compassion(self.places, compassion),
        )

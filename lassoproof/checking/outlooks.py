"""All promises that a place can make, at once (points 7.1 to 7.4).

The promises of a place have a number: its bit k is promise k. A set of such numbers is an integer
again, with a bit for each member, so that one step finds the truths of a row for all promises.
"""

from lassoproof.checking.truths import promised, settled_cases, settling_rows, spread
from lassoproof.errors import TooManyPromises
from lassoproof.fairness.marks import lowest

MOST_PROMISES = 12


def require_few_promises(rows):
    """Raises TooManyPromises if there are too many temporal rows."""
    count = len(rows.temporal)
    if count > MOST_PROMISES:
        raise TooManyPromises(count)


class Outlook:
    """What the promises of a place with certain facts make true.

    starting are the numbers of the promises with which such a place starts if its state is
    initial; settled has for each settling row the set of the promises with which it is settled.
    """

    def __init__(self, rows, facts):
        promises, every = promise_sets(len(rows.temporal))
        truths = spread(rows, [every if fact else 0 for fact in facts], promises, every)
        self.starting = members_of(every ^ truths[-1])
        self.settled = [
            settled_cases(rows, number, truths, every) for number in settling_rows(rows)
        ]
        self._every = every
        self._promised = promised(rows, truths)
        self._following = {}

    def following(self, number):
        """The numbers of the promises of such a place if the place before has this number."""
        if number not in self._following:
            found = self._every
            for index, cases in enumerate(self._promised):
                found = found & (cases if (number >> index) & 1 else self._every ^ cases)
            self._following[number] = members_of(found)
        return self._following[number]


class Outlooks:
    """The outlooks for the rows of a formula, one for all places with the same facts.

    promises has all tuples of promises in the order of their numbers.
    """

    def __init__(self, rows):
        self.rows = rows
        self.promises = all_promises(len(rows.temporal))
        self._known = {}

    def outlook(self, facts):
        """The outlook of a place with these facts."""
        key = tuple(facts)
        if key not in self._known:
            self._known[key] = Outlook(self.rows, facts)
        return self._known[key]


def all_promises(count):
    """All tuples of promises in the order of their numbers."""
    found = [()]
    for _ in range(count):
        found = [promises + (last,) for last in (False, True) for promises in found]
    return found


def promise_sets(count):
    """For each promise the set of the numbers with it, and the set of all numbers."""
    found = []
    width = 1
    for _ in range(count):
        found = [cases | (cases << width) for cases in found]
        found.append(((1 << width) - 1) << width)
        width = width * 2
    return found, (1 << width) - 1


def members_of(cases):
    """The members of a set, in ascending order."""
    found = []
    left = cases
    while left:
        found.append(lowest(left))
        left = left & (left - 1)
    return found

"""Branching formulas on small graphs, by the words of section 10 and all paths, for tests."""

WORDS_OF_ONE = ("ex", "ax", "ef", "af", "eg", "ag")
WORDS_OF_TWO = ("eu", "au")
REACHING = ("ef", "af", "eu", "au")


def random_branches(random, depth, atoms):
    """A random branching formula."""
    if depth <= 1 or random.random() < 0.15:
        return random.choice([("true",), ("false",)] + atoms * 2)
    word = random.choice(("not", "and", "or", "implies", "same") + WORDS_OF_ONE + WORDS_OF_TWO * 2)
    part = random_branches(random, depth - 1, atoms)
    if word in WORDS_OF_ONE or word == "not":
        return (word, part)
    return (word, part, random_branches(random, depth - 1, atoms))


def lassos_from(after, node):
    """All paths from a node that go on until they come to one of their nodes again.

    Each is the list of its nodes and the index at which it goes on from the last one. What a path
    shows or fails to show, it shows or one of these does.
    """
    found = []

    def walk(path):
        for ahead in after[path[-1]]:
            if ahead in path:
                found.append((path, path.index(ahead)))
            else:
                walk(path + [ahead])

    walk([node])
    return found


def first_goal(path, goals, passing):
    """The first place of a path that is a goal, if all places before may be passed, or None."""
    for place, node in enumerate(path):
        if goals[node]:
            return place
        if not passing[node]:
            return None
    return None


def tellings(word, after, node, left, right):
    """The truth and the rank of one of the eight words at a node."""
    if word == "ex":
        return any(left[ahead] for ahead in after[node]), -1
    if word == "ax":
        return all(left[ahead] for ahead in after[node]), -1
    everything = [True] * len(after)
    goals, passing = {
        "ef": (left, everything), "af": (left, everything), "eu": (right, left),
        "au": (right, left), "ag": ([not held for held in left], everything),
        "eg": ([not held for held in left], everything),
    }[word]
    places = [first_goal(path, goals, passing) for path, _ in lassos_from(after, node)]
    if word in ("ef", "eu", "ag"):
        reached = any(place is not None for place in places)
        rank = min([place for place in places if place is not None], default=-1)
    else:
        reached = all(place is not None for place in places)
        rank = max(places) if reached else -1
    return reached == (word in REACHING), rank


def answers(after, facts, rows):
    """The lists of truths and of ranks for all rows."""
    truths, ranks = [], []
    for word, a, b in rows.rows:
        count = range(len(after))
        if word in WORDS_OF_ONE or word in WORDS_OF_TWO:
            found = [tellings(word, after, node, truths[a], truths[b]) for node in count]
            truths.append([truth for truth, _ in found])
            ranks.append([rank for _, rank in found])
            continue
        ranks.append([-1 for _ in count])
        truths.append([{
            "true": lambda k: True, "false": lambda k: False, "fact": lambda k: facts[k][a],
            "not": lambda k: not truths[a][k], "and": lambda k: truths[a][k] and truths[b][k],
            "or": lambda k: truths[a][k] or truths[b][k],
            "implies": lambda k: truths[b][k] or not truths[a][k],
            "same": lambda k: truths[a][k] == truths[b][k],
        }[word](k) for k in count])
    return truths, ranks

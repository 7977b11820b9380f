"""The grammars of points 1.4 and 5.7 as plain rules, and a search for the first token
that no text can have, which knows nothing of the program's way of reading."""

EXPRESSIONS = {
    "same": [["implied"], ["same", "<->", "implied"]],
    "implied": [["either"], ["either", "->", "implied"]],
    "either": [["both"], ["either", "or", "both"]],
    "both": [["binary"], ["both", "and", "binary"]],
    "binary": [["prefix"]] + [["prefix", sign, "binary"] for sign in "URWM"],
    "prefix": [["compared"]] + [[sign, "prefix"] for sign in ["not", "X", "F", "G"]],
    "compared": [["sum"]] + [["sum", sign, "sum"] for sign in ["=", "<>", "<", "<=", ">", ">="]],
    "sum": [["product"], ["sum", "+", "product"], ["sum", "-", "product"]],
    "product": [
        ["signed"], ["product", "*", "signed"],
        ["product", "div", "POSITIVE"], ["product", "mod", "POSITIVE"],
    ],
    "signed": [["-", "signed"], ["atom"]],
    "atom": [
        ["NUMBER"], ["NAME"], ["true"], ["false"], ["(", "same", ")"],
        ["min", "(", "same", ",", "same", ")"], ["max", "(", "same", ",", "same", ")"],
    ],
}

SYSTEMS = {
    "system": [["lines", "variables", "processes", "fairness", "END"]],
    "lines": [[], ["lines", "LINE"]],
    "end": [["LINE", "lines"], ["LAST"]],
    "variables": [[], ["variables", "variable", "end"]],
    "variable": [
        ["var", "NAME", "in", "integer", "..", "integer", "start", "integer"],
        ["var", "NAME", "in", "integer", "..", "integer", "start", "integer", "..", "integer"],
    ],
    "integer": [["NUMBER"], ["-", "NUMBER"]],
    "processes": [[], ["processes", "behaviour"]],
    "behaviour": [["process", "NAME", "end", "commands"]],
    "commands": [[], ["commands", "command", "end"]],
    "command": [
        ["when", "same", "do", "deed"],
        ["NAME", ":", "when", "same", "do", "deed"],
    ],
    "deed": [["skip"], ["assignments"]],
    "assignments": [["assignment"], ["assignments", ",", "assignment"]],
    "assignment": [["NAME", ":=", "same"]],
    "fairness": [[], ["fairness", "fair", "end"]],
    "fair": [["justice", "same"], ["compassion", "same", ":", "same"]],
}
SYSTEMS.update(EXPRESSIONS)
FORMULA = dict(EXPRESSIONS, text=[["same", "END"]])

TEMPORAL_WORDS = ["X", "F", "G", "U", "R", "W", "M"]


def without_time(grammar):
    """The grammar without the rules that have a temporal word."""
    return {
        name: [rule for rule in rules if not any(word in rule for word in TEMPORAL_WORDS)]
        for name, rules in grammar.items()
    }


CONDITION = without_time(FORMULA)
SYSTEM = without_time(SYSTEMS)


class Chart:
    """What can still come after some tokens: an Earley chart, one set of items a token.

    A text may end where a line may end. That is a rule without a token, "LAST", which is
    taken if the end of the text comes next.
    """

    def __init__(self, grammar, start):
        self.grammar = grammar
        first = {(start, tuple(rule), 0, 0) for rule in grammar[start]}
        self.sets = [first]
        self.close(first, len(self.sets) - 1, False)

    def close(self, items, at, last):
        """Adds to the items of a place all that follow without a token."""
        waiting = list(items)
        nothing = set()
        while waiting:
            name, rule, dot, start = waiting.pop()
            new = []
            if dot == len(rule):
                if start == at:
                    nothing.add(name)
                origin = items if start == at else self.sets[start]
                new = [
                    (other, word, k + 1, begin) for other, word, k, begin in origin
                    if k < len(word) and word[k] == name
                ]
            elif rule[dot] in self.grammar:
                new = [(rule[dot], tuple(part), 0, at) for part in self.grammar[rule[dot]]]
                if rule[dot] in nothing:
                    new.append((name, rule, dot + 1, start))
            elif rule[dot] == "LAST" and last:
                new = [(name, rule, dot + 1, start)]
            for item in new:
                if item not in items:
                    items.add(item)
                    waiting.append(item)

    def wanted(self):
        """The terminals that can come next."""
        last = {
            rule[dot] for _, rule, dot, _ in self.sets[-1]
            if dot < len(rule) and rule[dot] not in self.grammar
        }
        if "LAST" in last:
            last = (last - {"LAST"}) | {"END"}
        return sorted(last)

    def take(self, terminals):
        """Goes on by a token that matches these terminals; False if it cannot come."""
        if "END" in terminals:
            self.close(self.sets[-1], len(self.sets) - 1, True)
        found = {
            (name, rule, dot + 1, start) for name, rule, dot, start in self.sets[-1]
            if dot < len(rule) and rule[dot] in terminals
        }
        self.sets.append(found)
        self.close(found, len(self.sets) - 1, False)
        return bool(found)


def terminals(token):
    """The terminals that a token matches."""
    kind, value, _ = token
    if kind == "number":
        return ["NUMBER", "POSITIVE"] if value > 0 else ["NUMBER"]
    if kind in ("name", "line", "end"):
        return [kind.upper()]
    return [value]


def first_fault(grammar, start, tokens):
    """The place of the first token that cannot come, or None."""
    chart = Chart(grammar, start)
    for token in tokens:
        if not chart.take(terminals(token)):
            return token[2]
    return None


SAMPLES = {
    "NUMBER": ["0", "1", "2", "007"], "POSITIVE": ["1", "3"], "NAME": ["x", "y", "p"],
    "LINE": ["\n"],
}
ANY = [
    "0", "2", "x", "y", "\n", "(", ")", ",", ":", ":=", "..", "+", "-", "*", "=", "<>", "<", "<=",
    ">", ">=", "->", "<->", "true", "false", "not", "and", "or", "div", "mod", "min", "max", "X",
    "F", "G", "U", "R", "W", "M", "var", "in", "start", "process", "when", "do", "skip",
    "justice", "compassion", "$",
]


def random_words(random, grammar, start, most, wild):
    """Words of a random text that mostly follows the grammar; wild is how often it does not."""
    chart = Chart(grammar, start)
    words = []
    while len(words) < most:
        wanted = chart.wanted()
        if random.random() < wild:
            word = random.choice(ANY)
        else:
            terminal = random.choice(wanted)
            if terminal == "END":
                return words
            word = random.choice(SAMPLES.get(terminal, [terminal]))
        words.append(word)
        if not chart.take(word_terminals(word)):
            return words + [random.choice(ANY) for _ in range(random.randrange(4))]
    return words


def word_terminals(word):
    """The terminals that a word of SAMPLES or ANY matches."""
    if word.isdigit():
        return ["NUMBER", "POSITIVE"] if int(word) > 0 else ["NUMBER"]
    if word in ("x", "y", "p"):
        return ["NAME"]
    return ["LINE"] if word == "\n" else [word]

"""Systems and formulas for tests of checks."""

from lassoproof.language.reader import read_formula
from lassoproof.systems.reader import read_system

COUNTER = "var x in 0..2 start 0\nprocess p\nwhen x < 2 do x := x + 1"

# Two processes that want to be in a critical part, with a lock.
LOCK = """var a in 0..2 start 0
var b in 0..2 start 0
var lock in 0..1 start 0
process p
when a = 0 do a := 1
when a = 1 and lock = 0 do a := 2, lock := 1
when a = 2 do a := 0, lock := 0
process q
when b = 0 do b := 1
when b = 1 and lock = 0 do b := 2, lock := 1
when b = 2 do b := 0, lock := 0"""
STAY = "\nprocess r\nwhen true do skip"
FAIR_LOCK = LOCK + """
justice a <> 2
justice b <> 2
compassion a = 1 and lock = 0 : a = 2
compassion b = 1 and lock = 0 : b = 2"""


def random_system(random):
    """A small system with random commands and conditions of fairness."""
    names = ["x", "y"][:random.randrange(3)]
    lines = [f"var {name} in 0..2 start {random.choice(['0', '1', '0..1', '0..2'])}"
             for name in names]
    for process in ["p", "q"][:random.randrange(3)] if names else []:
        lines.append(f"process {process}")
        for _ in range(random.randrange(1, 4)):
            name, other = random.choice(names), random.choice(names)
            guard = random.choice([f"{other} = 0", f"{name} < 2", "true", f"{name} <> {other}"])
            change = random.choice([f"{name} := {other}", f"{name} := ({name} + 1) mod 3",
                                    f"{name} := 0", f"{name} := 2 - {other}", "skip"])
            lines.append(f"when {guard} do {change}")
    conditions = [random_condition(random, names) for _ in range(8)]
    lines += [f"justice {conditions.pop()}" for _ in range(random.choice([0, 0, 1, 2]))]
    lines += [f"compassion {conditions.pop()} : {conditions.pop()}"
              for _ in range(random.choice([0, 0, 1, 2]))]
    return read_system("\n".join(lines))


def random_condition(random, names):
    if not names:
        return random.choice(["true", "false", "1 = 1"])
    name, other = random.choice(names), random.choice(names)
    return random.choice([f"{name} = {random.randrange(3)}", f"{name} < {other}",
                          f"{name} <> {random.randrange(3)}", "true", f"{name} + {other} = 2"])


def random_atom(random, names):
    """A comparison in the variables of a system."""
    if not names:
        return random.choice([("equal", ("number", 1), ("number", 1)),
                              ("below", ("number", 1), ("number", 1))])
    word = random.choice(["equal", "below", "upto"])
    return (word, ("name", random.choice(names)), ("number", random.randrange(3)))


def many_rows(count, name="x"):
    """A formula with this many temporal rows."""
    return read_formula(" and ".join(f"F {name} = {k}" for k in range(count)))

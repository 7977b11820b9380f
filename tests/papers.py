"""The form of written answers by point 8.3, as regular expressions, for tests."""

import re

NATURAL = r"(?:0|[1-9][0-9]{0,17})"
INTEGER = rf"(?:0|-?[1-9][0-9]{{0,17}})"
PLACE = re.compile(rf"place( {INTEGER})* :( [01])*")
BLOCK = re.compile(rf"( *)(once|justice {NATURAL}|compassion {NATURAL}) :( {NATURAL})*")
STEM = re.compile(rf"stem( {INTEGER})*")
LOOP = re.compile(rf"loop( {INTEGER})*")


def first_wrong_certificate_line(text):
    """The number of the first wrong line of what should be a certificate, or None."""
    lines = text.split("\n")
    if lines[0] != "holds":
        return 1
    before = None
    for number, line in enumerate(lines[1:], 2):
        block = BLOCK.fullmatch(line)
        if before is None and PLACE.fullmatch(line):
            continue
        if not block:
            return number
        depth = len(block.group(1))
        most = 0
        if before is not None:
            most = len(before.group(1)) + before.group(2).startswith("compassion")
        if depth > min(most, 40):
            return number
        before = block
    return None


def first_wrong_lasso_line(text):
    """The number of the first wrong line of what should be a lasso, or None."""
    lines = text.split("\n")
    if lines[0] != "fails":
        return 1
    in_loop = False
    for number, line in enumerate(lines[1:], 2):
        if LOOP.fullmatch(line):
            in_loop = True
        elif in_loop or not STEM.fullmatch(line):
            return number
    return None if in_loop else len(lines) + 1


def spoilt(random, text):
    """The text with a small random change."""
    lines = text.split("\n")
    kind = random.randrange(7)
    at = random.randrange(len(lines))
    if kind == 0:
        del lines[at]
    elif kind == 1:
        lines.insert(at, random.choice(lines + ["", " ", "place : 1", "once :", "loop", "stem 1"]))
    elif kind == 2:
        lines[at] = " " * random.randrange(3) + lines[at]
    elif kind == 3:
        other = random.randrange(len(lines))
        lines[at], lines[other] = lines[other], lines[at]
    else:
        place = random.randrange(len(lines[at]) + 1)
        middle = random.choice(["", " ", "0", "1", "-", ":", "x", "\t", "\n", " :", "-0", "holds",
                                "9" * 17, "compassion 0", "once", "\r", "stem", "\u0661"])
        lines[at] = lines[at][:place] + middle + lines[at][place + random.randrange(2):]
    return "\n".join(lines)

"""Writing and reading lassos (points 8.2 and 8.3)."""

from lassoproof.errors import InvalidPaper
from lassoproof.papers.words import integers_of


def write_lasso(stem, loop):
    """The text of a lasso."""
    lines = ["fails"]
    lines.extend([state_line("stem", state) for state in stem])
    lines.extend([state_line("loop", state) for state in loop])
    return "\n".join(lines)


def state_line(word, state):
    """The line of a state of the stem or of the loop."""
    return " ".join([word, *[str(number) for number in state]])


def read_lasso(text):
    """The lasso that a text writes, as a tuple of stem and loop."""
    lines = text.split("\n")
    if lines[0] != "fails":
        raise InvalidPaper(1)
    stem = []
    loop = []
    for index in range(1, len(lines)):
        words = lines[index].split(" ")
        state = integers_of(words[1:])
        if state is None or words[0] not in ("stem", "loop") or (words[0] == "stem" and loop):
            raise InvalidPaper(index + 1)
        if words[0] == "stem":
            stem.append(state)
        else:
            loop.append(state)
    if not loop:
        raise InvalidPaper(len(lines) + 1)
    return (stem, loop)

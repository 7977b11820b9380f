"""Writing and reading certificates (points 8.1 and 8.3)."""

from lassoproof.checking.verdicts import Certificate
from lassoproof.errors import InvalidPaper
from lassoproof.papers.words import integers_of, is_natural

MOST_SPACES = 40


def write_certificate(certificate):
    """The text of a Certificate."""
    lines = ["holds"]
    lines.extend([place_line(state, promises) for state, promises in certificate.places])
    return "\n".join(lines + block_lines(certificate.blocks, ""))


def place_line(state, promises):
    """The line of a product place."""
    values = [str(number) for number in state]
    return " ".join(["place", *values, ":", *["1" if promise else "0" for promise in promises]])


def block_lines(blocks, spaces):
    """The lines of blocks that begin with some spaces, each followed by its inner blocks."""
    lines = []
    for reason, number, nodes, inner in blocks:
        words = [reason, ":"] if reason == "once" else [reason, str(number), ":"]
        lines.append(spaces + " ".join(words + [str(node) for node in nodes]))
        lines.extend(block_lines(inner, spaces + " "))
    return lines


def read_certificate(text):
    """The Certificate that a text writes."""
    lines = text.split("\n")
    if lines[0] != "holds":
        raise InvalidPaper(1)
    places = []
    while 1 + len(places) < len(lines) and lines[1 + len(places)].startswith("place"):
        place = place_of(lines[1 + len(places)].split(" "))
        if place is None:
            raise InvalidPaper(2 + len(places))
        places.append(place)
    return Certificate(places, read_blocks(lines, 1 + len(places)))


def place_of(words):
    """The product place that the words of a line write, or None."""
    if words[0] != "place" or words.count(":") != 1:
        return None
    middle = words.index(":")
    state = integers_of(words[1:middle])
    promises = words[middle + 1:]
    if state is None or not all(word in ("0", "1") for word in promises):
        return None
    return (state, tuple([word == "1" for word in promises]))


def read_blocks(lines, first):
    """The blocks that the lines from an index on write.

    inners has, for each number of spaces with which the next line may begin, the list to which
    its block belongs.
    """
    blocks = []
    inners = [blocks]
    for index in range(first, len(lines)):
        words = lines[index].lstrip(" ").split(" ")
        depth = len(lines[index]) - len(lines[index].lstrip(" "))
        block = block_of(words)
        if block is None or depth >= len(inners):
            raise InvalidPaper(index + 1)
        inners[depth].append(block)
        inners = inners[:depth + 1]
        if block[0] == "compassion" and depth < MOST_SPACES:
            inners.append(block[3])
    return blocks


def block_of(words):
    """The block that the words of a line write, without inner blocks, or None."""
    reason = words[0]
    if reason == "once":
        return numbered_block(reason, ["0"] + words[1:])
    if reason == "justice" or reason == "compassion":
        return numbered_block(reason, words[1:])
    return None


def numbered_block(reason, words):
    """The block of a reason from the words of its number, a colon and its nodes, or None."""
    if len(words) < 2 or words[1] != ":":
        return None
    numbers = words[:1] + words[2:]
    if not all(is_natural(word) for word in numbers):
        return None
    return (reason, int(words[0]), [int(word) for word in words[2:]], [])

"""The answers of a check: certificates and verdicts (points 7.4, 7.5 and 7.7)."""


class Certificate:
    """Product places, and blocks of their indexes, which show that a formula holds."""

    def __init__(self, places, blocks):
        self.places = list(places)
        self.blocks = copied_blocks(blocks)


class Verdict:
    """Whether a formula holds: with a certificate, or with the stem and the loop of a lasso."""

    def __init__(self, holds, certificate, stem, loop):
        self.holds = holds
        self.certificate = certificate
        self.stem = copied(stem)
        self.loop = copied(loop)


def copied_blocks(blocks):
    """New blocks with new lists of nodes and of inner blocks."""
    return [
        (reason, number, list(nodes), copied_blocks(inner))
        for reason, number, nodes, inner in blocks
    ]


def copied(states):
    """A new list, or None."""
    return None if states is None else list(states)

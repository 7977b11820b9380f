"""Fair loops (points 6.1 and 6.2)."""


def is_fair(loop, *, justice, compassion):
    """Whether the run that repeats a loop for ever is fair."""
    on_loop = {node: True for node in loop}
    if not all(meets(nodes, on_loop) for nodes in justice):
        return False
    return all(meets(second, on_loop) or not meets(first, on_loop) for first, second in compassion)


def meets(nodes, table):
    """Whether one of the nodes is a key of a dict."""
    return any(node in table for node in nodes)

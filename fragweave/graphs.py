"""Graphs: dicts from each node to the list of the nodes that follow it."""


def turned_round(follows):
    """Return a dict from each node that follows some to the list of the nodes ahead of it."""
    ahead = {}
    for node in follows:
        for follower in follows[node]:
            ahead.setdefault(follower, []).append(node)
    return ahead


def fewest_steps(follows, goals):
    """Return a dict from each node from which a goal is reached to the fewest steps to one."""
    ahead = turned_round(follows)
    steps = {goal: 0 for goal in goals}
    layer = list(steps)
    while layer:
        behind = []
        for node in layer:
            for other in ahead.get(node, []):
                if other not in steps:
                    steps[other] = steps[node] + 1
                    behind.append(other)
        layer = behind
    return steps

"""Ways round in graphs: for each node its edges are a list of tuples (label, node)."""


def lap_through(edges, node):
    """The labels of a shortest way, not empty, from the node back to it, the first of these; None without one."""
    met = [node]
    ways = {node: []}
    at = 0
    while at < len(met):
        here = met[at]
        at += 1
        for label, there in edges[here]:
            if there == node:
                return [*ways[here], label]
            if there not in ways:
                ways[there] = [*ways[here], label]
                met.append(there)
    return None


def any_lap(edges):
    """Some way round: a list of tuples (node, label of the edge to the next one); None without one."""
    ways_on = _ways_on(edges)
    endless = [node for node in edges if ways_on[node] > 0]
    if endless == []:
        return None
    # Each of these leads to such a one again: so a node must come twice.
    node = endless[0]
    places = {}
    steps = []
    while node not in places:
        places[node] = len(steps)
        label, there = [edge for edge in edges[node] if ways_on[edge[1]] > 0][0]
        steps.append((node, label))
        node = there
    return steps[places[node] :]


def _ways_on(edges):
    """For each node how many of its edges lead to nodes from which one can go on without an end."""
    ways_on = {node: len(rows) for node, rows in edges.items()}
    ahead = _turned(edges)
    waiting = [node for node in edges if ways_on[node] == 0]
    while waiting != []:
        done = waiting.pop()
        for node in ahead[done]:
            ways_on[node] -= 1
            if ways_on[node] == 0:
                waiting.append(node)
    return ways_on


def knots(edges):
    """For each node the number of its knot, the nodes to which it leads and that lead back to it.

    No edge leads to a knot with a greater number.
    """
    ahead = _turned(edges)
    left = _as_left(edges)
    numbers = {}
    # The node that is left last leads to all that can be come to from its knot, and no later knot leads there.
    number = len(edges)
    while left != []:
        waiting = [left.pop()]
        number -= 1
        while waiting != []:
            node = waiting.pop()
            if node not in numbers:
                numbers[node] = number
                waiting.extend(ahead[node])
    return numbers


def _as_left(edges):
    """The nodes in the sequence in which a walk leaves them that goes on as long as it meets new ones."""
    left = []
    met = {}
    for start in edges:
        waiting = [(start, False)]
        while waiting != []:
            node, is_done = waiting.pop()
            if is_done:
                left.append(node)
            elif node not in met:
                met[node] = True
                waiting.append((node, True))
                waiting.extend([(there, False) for _, there in edges[node]])
    return left


def _turned(edges):
    """For each node those from which an edge leads to it."""
    ahead = {node: [] for node in edges}
    for node, rows in edges.items():
        for _, there in rows:
            ahead[there].append(node)
    return ahead

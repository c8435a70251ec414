"""Ways round in graphs: for each node its edges are a list of tuples (label, node)."""


def lap_through(edges, node):
    """The labels of a shortest way, not empty, from the node back to it, the first of these; None without one."""
    met = [node]
    ways = {node: []}
    at = 0
    while at < len(met):
        here = met[at]
        at += 1
        for label, there in edges[here]:
            if there == node:
                return [*ways[here], label]
            if there not in ways:
                ways[there] = [*ways[here], label]
                met.append(there)
    return None


def any_lap(edges):
    """Some way round: a list of tuples (node, label of the edge to the next one); None without one."""
    ways_on = _ways_on(edges)
    endless = [node for node in edges if ways_on[node] > 0]
    if endless == []:
        return None
    # Each of these leads to such a one again: so a node must come twice.
    node = endless[0]
    places = {}
    steps = []
    while node not in places:
        places[node] = len(steps)
        label, there = [edge for edge in edges[node] if ways_on[edge[1]] > 0][0]
        steps.append((node, label))
        node = there
    return steps[places[node] :]


def _ways_on(edges):
    """For each node how many of its edges lead to nodes from which one can go on without an end."""
    ways_on = {node: len(rows) for node, rows in edges.items()}
    ahead = {node: [] for node in edges}
    for node, rows in edges.items():
        for _, there in rows:
            ahead[there].append(node)
    waiting = [node for node in edges if ways_on[node] == 0]
    while waiting != []:
        done = waiting.pop()
        for node in ahead[done]:
            ways_on[node] -= 1
            if ways_on[node] == 0:
                waiting.append(node)
    return ways_on

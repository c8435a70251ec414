"""A yard at an exit, watched by a wish: where both stand, and which places signs lead to meanwhile."""

from flowyard.basics import is_count, is_integer, is_tuple_of
from flowyard.laps import knots


class Watched:
    """A yard that was looked through, at an exit, and a wish.

    A NODE is a tuple (rest, place). For each of them, as they are come to, the least stream that leads
    there is kept, and its steps by both signs: tuples (node, list of the places that are passed).
    """

    def __init__(self, looked, outlet, wish):
        self.passed_first = wish.passed(0, looked.first[outlet])
        self.first = (0, wish.goes(0, looked.first[outlet]))
        self.streams = {self.first: ""}
        self.steps = {}
        met = [self.first]
        while len(self.steps) < len(met):
            node = met[len(self.steps)]
            self.steps[node] = [_step(looked.steps[node[0]][digit], outlet, wish, node[1]) for digit in (0, 1)]
            for sign, (goal, _) in zip("01", self.steps[node]):
                if goal not in self.streams:
                    self.streams[goal] = self.streams[node] + sign
                    met.append(goal)

    def last_lot(self, stream):
        """The places that are passed again and again in the flow of an endless stream; [] if it is finite."""
        begin, lap = stream
        node, _ = self._led(self.first, begin)
        rounds = {}
        while node not in rounds:
            rounds[node] = self._led(node, lap)
            node, _ = rounds[node]
        places = {}
        # Each lap from here on leads on the way round, and the last one back to here.
        last = node
        while last is not None:
            goal, passed = rounds[last]
            for place in passed:
                places[place] = True
            last = goal if goal != node else None
        return sorted(places)

    def edges_within(self, lot):
        """For each node its steps within the lot, as tuples ((sign, places that are passed), node)."""
        edges = {}
        for node, steps in self.steps.items():
            told = [((sign, passed), goal) for sign, (goal, passed) in zip("01", steps)]
            edges[node] = [edge for edge in told if all([place in lot for place in edge[0][1]])]
        return edges

    def _led(self, node, text):
        """The node to which a text leads, and the places that are passed, as keys."""
        places = {}
        for sign in text:
            node, passed = self.steps[node][int(sign)]
            for place in passed:
                places[place] = True
        return node, places


def witness_of(watched, lot):
    """A witness of the lot; None if it has none."""
    edges = watched.edges_within(lot)
    numbers = knots(edges)
    inner = {}
    for node, rows in edges.items():
        inner[node] = [(label, goal) for label, goal in rows if numbers[goal] == numbers[node]]
    passed = _passed_by_number(inner, numbers)
    for node, rows in inner.items():
        # A lap that begins where it passes a place needs no way there, and so stays short.
        if passed[numbers[node]] == list(lot) and any([lot[0] in label[1] for label, _ in rows]):
            return (watched.streams[node], _lap_by_all(inner, node, lot))
    return None


def bars_of(watched, lot):
    """Bars of the lot; None if it has a witness."""
    if witness_of(watched, lot) is not None:
        return None
    numbers = knots(watched.edges_within(lot))
    return {node: numbers[node] for node in sorted(watched.steps)}


def are_bars_of(watched, lot, value):
    if not are_counts_for_nodes(watched, value):
        return False
    edges = watched.edges_within(lot)
    inner = {}
    for node, rows in edges.items():
        if any([value[goal] > value[node] for _, goal in rows]):
            return False
        inner[node] = [(label, goal) for label, goal in rows if value[goal] == value[node]]
    passed = _passed_by_number(inner, value)
    return all([places != list(lot) for places in passed.values()])


def are_counts_for_nodes(watched, value):
    """Whether it is a dict from just all nodes to COUNTS."""
    if not isinstance(value, dict) or len(value) != len(watched.steps):
        return False
    for node, number in value.items():
        if not _is_node(watched, node) or not is_count(number):
            return False
    return True


def _step(step, outlet, wish, place):
    goal, texts = step
    passed = wish.passed(place, texts[outlet])
    return (goal, [place, *passed][-1]), passed


def _is_node(watched, value):
    return is_tuple_of(value, 2) and all([is_integer(number) for number in value]) and value in watched.steps


def _passed_by_number(inner, numbers):
    """For each number of nodes the places, rising, that steps between nodes with this number pass."""
    found = {number: {} for number in numbers.values()}
    for node, rows in inner.items():
        for (_, passed), _ in rows:
            for place in passed:
                found[numbers[node]][place] = True
    return {number: sorted(places) for number, places in found.items()}


def _lap_by_all(edges, start, lot):
    """The signs of a shortest way from the node back to it that passes all places of the lot."""
    begin = (start, ())
    ways = {begin: ""}
    waiting = [begin]
    at = 0
    while True:
        node, seen = waiting[at]
        for (sign, passed), goal in edges[node]:
            behind = (goal, tuple([place for place in lot if place in seen or place in passed]))
            way = ways[(node, seen)] + sign
            if behind == (start, tuple(lot)):
                return way
            if behind not in ways:
                ways[behind] = way
                waiting.append(behind)
        at += 1

"""The slots at all rests of a yard, the links between them, and how late they get."""

from flowyard.basics import is_integer, is_tuple_of, lowest_terms
from flowyard.laps import any_lap
from flowyard.moments import links_of_step, slots_at


class Paced:
    """A yard that was looked through, and all links of its steps.

    A NODE is a tuple (rest, slot); with None in the place of the slot it stands for the coming of
    the next sign. An edge is a tuple (node, later node, ticks, sign).
    """

    def __init__(self, yard, looked, sizes):
        self.looked = looked
        self.nodes = {}
        self.edges = []
        # By tuples (rest, sign): the ticks of the links by their two slots, those of links to ends by their slot.
        self.links = {}
        self.ends = {}
        for number, rest in enumerate(looked.rests):
            for slot in slots_at(yard, rest[1], sizes):
                self.nodes[(number, slot)] = True
            for sign in "01":
                slots, ends = links_of_step(yard, rest, sign, sizes)
                self._put_in(number, sign, slots)
                self.ends[(number, sign)] = ends
        # All is there at 0 at the very beginning: so each moment is as far behind it as behind its first source.
        slots, ends = links_of_step(yard, yard.begin, "", sizes)
        self.first = {slot: max(list(moment.values())) for slot, moment in slots.items()}
        self.over = max([0, *list(ends.values())])

    def start(self):
        """How late the nodes of the first rest are behind the empty stream."""
        late = {(0, slot): ticks for slot, ticks in self.first.items()}
        late[(0, None)] = 0
        return late

    def moved(self, late, rest, sign, apart):
        """The rest behind a step, and how late its nodes are by those ahead of it."""
        goal, _ = self.looked.steps[rest][int(sign)]
        found = {(goal, None): 0}
        for (slot, later), ticks in self.links[(rest, sign)].items():
            reached = late[(rest, slot)] + ticks - apart
            found[(goal, later)] = max(reached, found.get((goal, later), reached))
        return goal, found

    def last_end(self, late, rest, sign):
        """The greatest end of a beat of the step, less the coming of its sign."""
        return max([late[(rest, slot)] + ticks for slot, ticks in self.ends[(rest, sign)].items()])

    def with_comings(self, apart):
        """All edges, and those from each coming of a sign to the next one."""
        found = list(self.edges)
        for rest, sign in self.links:
            goal, _ = self.looked.steps[rest][int(sign)]
            found.append(((rest, None), (goal, None), apart, sign))
        return found

    def _put_in(self, number, sign, slots):
        """Put in the links of a step, told by the moments of the slots behind it."""
        goal, _ = self.looked.steps[number][int(sign)]
        links = {}
        for later, moment in slots.items():
            for slot, ticks in moment.items():
                links[(slot, later)] = ticks
                self.edges.append(((number, slot), (goal, later), ticks, sign))
        self.links[(number, sign)] = links


def are_for_nodes(paced, value):
    """Whether it is a dict from just all nodes to INTEGERS."""
    if not isinstance(value, dict) or len(value) != len(paced.nodes):
        return False
    for node, height in value.items():
        if not _is_node(paced, node) or not is_integer(height):
            return False
    return True


def is_slot(value):
    """Whether it is of the kind of a slot, so that it can be looked for among slots."""
    if not isinstance(value, tuple) or not 2 <= len(value) <= 3:
        return False
    return isinstance(value[0], str) and all([is_integer(number) for number in value[1:]])


def least_heights(paced, apart):
    """The least heights of all nodes for signs so far apart; None if they rise for ever."""
    heights = paced.start()
    for number in range(len(paced.looked.rests)):
        heights[(number, None)] = 0
    # Without a ring that raises them all are as high as they get behind as many rounds as there are nodes.
    for _ in range(len(paced.nodes) + 2):
        if not _raise_all(paced, heights, apart):
            return heights
    return None


def greatest_delay(paced, heights):
    """The greatest delay of a sign, by the least heights of all nodes."""
    return max([paced.over] + [paced.last_end(heights, rest, sign) for rest, sign in paced.ends])


def slowest_ring(paced):
    """The greatest mean of the rings, the edges of a ring that has it, and scaled heights for it."""
    mean = (0, 1)
    ring = []
    heights, faster = scaled(paced, mean)
    while faster is not None:
        ring = faster
        mean = lowest_terms(sum([ticks for _, _, ticks, _ in ring]), len(ring))
        heights, faster = scaled(paced, mean)
    return mean, ring, heights


def scaled(paced, mean):
    """Scaled heights for the mean and None, or None and the edges of a ring that has a greater mean."""
    heights = {node: 0 for node in paced.nodes}
    last = {}
    while _raise_scaled(paced, heights, last, mean):
        # Edges by which nodes were raised last lead round only if they raise them for ever.
        lap = any_lap({node: [(last[node], last[node][0])] if node in last else [] for node in heights})
        if lap is not None:
            return None, [edge for _, edge in lap[::-1]]
    return heights, None


def _is_node(paced, value):
    return is_tuple_of(value, 2) and is_integer(value[0]) and is_slot(value[1]) and value in paced.nodes


def _raise_all(paced, heights, apart):
    """Raise each node by its links once; whether one was raised."""
    raised = False
    for node, later, ticks, _ in paced.edges:
        if node in heights:
            reached = heights[node] + ticks - apart
            if reached > heights.get(later, reached - 1):
                heights[later] = reached
                raised = True
    return raised


def _raise_scaled(paced, heights, last, mean):
    """As above for scaled heights; for each node that is raised the edge is kept as its last one."""
    least, signs = mean
    raised = False
    for edge in paced.edges:
        node, later, ticks, _ = edge
        if node in heights and heights[node] + signs * ticks - least > heights[later]:
            heights[later] = heights[node] + signs * ticks - least
            last[later] = edge
            raised = True
    return raised

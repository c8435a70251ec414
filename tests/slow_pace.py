"""A slow reading of [53], [55] and [56] for the tests: delays of all short streams, and all short ways round."""

from fractions import Fraction

from flowyard.pace import heights
from flowyard.room import are_enough
from helper import some_yard
from slow_clock import Ticking, slow_ends, slow_links, ticking
from slow_rests import Steps, all_texts, small_held


def slow_delay(yard, stream, apart, sizes):
    """The delay of the last sign of the stream, by the clock that goes tick by tick."""
    return max(over for _, over, _ in ticking(yard, stream, apart, sizes).done) - (len(stream) - 1) * apart


def slow_delays(yard, most, apart, sizes):
    return {stream: slow_delay(yard, stream, apart, sizes) for stream in all_texts(most, 1)}


class Links:
    """All links of all steps of a held yard, and the slots at its rests."""

    def __init__(self, yard, sizes):
        self.steps = Steps(yard)
        self.nodes = []
        self.links = {}
        self.ends = {}
        for number, rest in enumerate(self.steps.rests):
            self.nodes += [(number, slot) for slot in Ticking(yard, rest, sizes, []).slots()]
            for sign in "01":
                self.links[(number, sign)] = slow_links(yard, rest, sign, sizes)
                self.ends[(number, sign)] = slow_ends(yard, rest, sign, sizes)
        begin = Ticking(yard, yard.begin, sizes, []).go()
        self.first = begin.slots()
        self.over = max([0] + [over for _, over, _ in begin.done])

    def edges(self):
        for (number, sign), links in self.links.items():
            goal = self.steps.steps[number][int(sign)][0]
            for slot, later, ticks in links:
                yield (number, slot), (goal, later), ticks

    def pace(self):
        """The greatest mean of all ways round of up to as many links as there are nodes."""
        edges = [edge for edge in self.edges() if edge[0][1] is not None]
        best = Fraction(0)
        for start in self.nodes:
            far = {start: 0}
            for length in range(1, len(self.nodes) + 1):
                behind = {}
                for node, later, ticks in edges:
                    if node in far:
                        behind[later] = max(far[node] + ticks, behind.get(later, 0))
                far = behind
                if start in far:
                    best = max(best, Fraction(far[start], length))
        return best.numerator, best.denominator

    def are_heights(self, value, apart, bound):
        """Whether a dict that has just the nodes is heights that bound the delay by the number."""
        def height(node):
            return 0 if node[1] is None else value[node]
        if any(value[(0, slot)] < late for slot, late in self.first.items()) or self.over > bound:
            return False
        if any(height(later) < height(node) + ticks - apart for node, later, ticks in self.edges()):
            return False
        return all(height((number, slot)) + ticks <= bound
                   for (number, _), ends in self.ends.items() for slot, ticks in ends.items())

    def are_scaled(self, value, mean):
        return all(value[later] >= value[node] + mean[1] * ticks - mean[0]
                   for node, later, ticks in self.edges() if node[1] is not None)


def some_paced(dice):
    """A yard of few rests, and sizes that are enough for it, or None."""
    while True:
        yard = some_yard(dice, 3)
        if small_held(yard, 4):
            sizes = dice.one_of([None] + [(size,) * len(yard.pipes) for size in (1, 2, 3)
                                          if are_enough(yard, (size,) * len(yard.pipes))])
            if len(heights(yard, 100, sizes)) <= 30:
                return yard, sizes

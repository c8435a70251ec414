"""A slow reading of [62] to [66] for the tests: ways round, flows of all short streams, and judges word by word."""

from slow_rests import Steps, all_texts
from some_wishes import slow_last_lot


def goes(wish, place, text):
    """The places behind each sign of the text."""
    passed = []
    for sign in text:
        place = wish.goals()[place][int(sign)]
        passed.append(place)
    return passed


class Watching:
    """A yard of few rests at an exit, watched by a wish."""

    def __init__(self, yard, outlet, wish):
        self.steps = Steps(yard)
        self.outlet = outlet
        self.wish = wish
        self.passed_first = goes(wish, 0, self.steps.first[outlet])
        self.first = (0, ([0] + self.passed_first)[-1])
        self.nodes = {self.first}
        while True:
            more = {goal for node in self.nodes for sign in "01" for goal, _ in [self.step(node, sign)]} - self.nodes
            if not more:
                break
            self.nodes |= more

    def step(self, node, sign):
        """The node behind the step, and the places that it passes."""
        rest, texts = self.steps.steps[node[0]][int(sign)]
        passed = goes(self.wish, node[1], texts[self.outlet])
        return (rest, ([node[1]] + passed)[-1]), passed

    def node_behind(self, stream):
        """The node to which a stream leads, by its flow alone."""
        rest, flow = self.steps.flow_from(0, self.outlet, stream)
        return rest, ([0] + goes(self.wish, 0, self.steps.first[self.outlet] + flow))[-1]

    def lot_of(self, begin, lap):
        """The last lot of the flow of an endless stream; None if it is finite."""
        flow = self.steps.endless_flow(self.outlet, begin, lap)
        return slow_last_lot(self.wish, *flow) if flow[1] else None

    def all_steps(self):
        """All steps as (node, node behind it, places that are passed)."""
        return [(node, *self.step(node, sign)) for node in sorted(self.nodes) for sign in "01"]

    def counts_are_told(self, value):
        return set(value) == self.nodes and all(type(count) is int and count >= 0 for count in value.values())

    def are_bars(self, lot, value):
        if not self.counts_are_told(value):
            return False
        within = [row for row in self.all_steps() if set(row[2]) <= set(lot)]
        if any(value[goal] > value[node] for node, goal, _ in within):
            return False
        for count in value.values():
            passed = {place for node, goal, places in within if value[node] == value[goal] == count for place in places}
            if set(lot) <= passed:
                return False
        return True

    def are_heights(self, lot, number, value):
        if not self.counts_are_told(value) or max(value.values()) > number:
            return False
        rows = [(0, self.passed_first, self.first)]
        rows += [(value[node], passed, goal) for node, goal, passed in self.all_steps()]
        for count, passed, goal in rows:
            for place in passed:
                count = 0 if place in lot else count + 1
                if count > number:
                    return False
            if count > value[goal]:
                return False
        return True

    def runs_ahead_of(self, lot, most):
        """The greatest run of signs that lead to no place of the lot, for all short streams; for each node at its end."""
        greatest = 0
        at_end = {}
        for stream in all_texts(most):
            _, flow = self.steps.flow_from(0, self.outlet, stream)
            count = 0
            for place in goes(self.wish, 0, self.steps.first[self.outlet] + flow):
                count = 0 if place in lot else count + 1
                greatest = max(greatest, count)
            node = self.node_behind(stream)
            at_end[node] = max(count, at_end.get(node, 0))
        return greatest, at_end


def longest_silent(steps, outlet, rest, most):
    """How many silent steps can follow one another from the rest on, by all ways of up to so many signs."""
    found = 0
    for text in all_texts(most):
        _, flow = steps.flow_from(rest, outlet, text)
        if flow == "":
            found = max(found, len(text))
    return found

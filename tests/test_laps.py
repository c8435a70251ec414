"""Ways round in graphs, and streams that show that a rest is not settled: parts inside the package."""

import unittest

from flowyard.endless import shortest, ways_apart
from flowyard.laps import any_lap, knots, lap_through
from flowyard.looking import look_through
from helper import Cases, Dice
from slow_rests import Steps, all_texts, told
from some_held import some_held


def some_graph(dice):
    nodes = list(range(1 + dice.below(7)))
    return {node: [(dice.one_of("01x"), there) for there in nodes if dice.below(4) == 0] for node in nodes}


def ways(edges, node, length):
    """All ways of so many edges from a node on: the labels, and where they lead."""
    found = [([], node)]
    for _ in range(length):
        found = [(labels + [label], goal) for labels, here in found for label, goal in edges[here]]
    return found


class Laps(Cases):
    def test_the_shortest_lap_through_a_node(self):
        self.same(lap_through({0: [("a", 1)], 1: [("b", 2), ("c", 0)], 2: [("d", 0)]}, 0), ["a", "c"])
        self.same(lap_through({0: [("a", 0)]}, 0), ["a"])
        self.same(lap_through({0: [("a", 1)], 1: []}, 0), None)
        self.same(lap_through({0: [("a", 1)], 1: [("b", 1)]}, 0), None)
        ring = {node: [("x", node), (str(node), (node + 1) % 9)] for node in range(1, 9)}
        self.same(lap_through({0: [("0", 1)], **ring}, 0), [str(node) for node in range(9)])

    def test_laps_of_many_graphs(self):
        dice = Dice(11)
        counts = [0, 0]
        for _ in range(300):
            edges = some_graph(dice)
            for node in edges:
                found = lap_through(edges, node)
                lengths = [length for length in range(1, len(edges) + 1)
                           if any(goal == node for _, goal in ways(edges, node, length))][:1]
                self.same([] if found is None else [len(found)], lengths)
                if found is not None:
                    self.assertIn((found, node), ways(edges, node, len(found)))
                counts[found is not None] += 1
        self.assertGreater(min(counts), 100)

    def test_some_lap(self):
        self.same(any_lap({0: [("a", 1)], 1: [("b", 2)], 2: [("c", 1)]}) in ([(1, "b"), (2, "c")], [(2, "c"), (1, "b")]), True)
        self.same(any_lap({0: [("a", 0)]}), [(0, "a")])
        self.same([any_lap({}), any_lap({0: [("a", 1), ("b", 1)], 1: []})], [None, None])
        dice = Dice(12)
        counts = [0, 0]
        for _ in range(300):
            edges = some_graph(dice)
            found = any_lap(edges)
            self.same(found is not None, any(lap_through(edges, node) is not None for node in edges))
            counts[found is not None] += 1
            if found is not None:
                nodes = [node for node, _ in found]
                self.same(len(set(nodes)), len(nodes))
                for (node, label), later in zip(found, nodes[1:] + nodes[:1]):
                    self.assertIn((label, later), edges[node])
        self.assertGreater(min(counts), 50)


class Knots(Cases):
    def test_some(self):
        self.same(knots({}), {})
        found = knots({0: [("a", 1)], 1: [("b", 2)], 2: [("c", 1), ("d", 3)], 3: []})
        self.same(found[1], found[2])
        self.assertTrue(found[0] > found[1] > found[3] >= 0)
        # A long way is gone without going deep.
        ring = {node: [("x", (node + 1) % 5000)] for node in range(5000)}
        self.same(len(set(knots(ring).values())), 1)

    def test_many_graphs(self):
        dice = Dice(14)
        counts = [0, 0]
        for _ in range(300):
            edges = some_graph(dice)
            behind = {node: self.reached(edges, node) for node in edges}
            numbers = knots(edges)
            self.same(sorted(numbers), sorted(edges))
            self.assertGreaterEqual(min(numbers.values()), 0)
            for node in edges:
                for other in edges:
                    both = other in behind[node] and node in behind[other]
                    counts[both] += 1
                    self.same(numbers[node] == numbers[other], both)
                    self.assertTrue(other not in behind[node] or numbers[other] <= numbers[node])
        self.assertGreater(min(counts), 300)

    def reached(self, edges, start):
        met = {start}
        waiting = [start]
        while waiting:
            more = {goal for _, goal in edges[waiting.pop()]} - met
            met |= more
            waiting += more
        return met


class Endless(Cases):
    def test_shortest(self):
        for begin in all_texts(4):
            for lap in all_texts(4, 1):
                flow = told(begin, lap, 40)
                wanted = min(((at, size) for at in range(6) for size in range(1, 5)
                              if told(flow[:at], flow[at:at + size], 40) == flow), key=lambda pair: (pair[1], pair[0]))
                self.same(shortest(begin, lap), (flow[:wanted[0]], flow[wanted[0]:sum(wanted)]))
            self.same(shortest(begin, ""), (begin, ""))

    def test_ways_apart(self):
        dice = Dice(13)
        counts = [0, 0]
        for _ in range(120):
            yard = some_held(dice)
            steps = Steps(yard)
            for rest, found in enumerate(ways_apart(look_through(yard), 0)):
                counts[found is None] += 1
                if found is not None:
                    one, other = [steps.endless_flow(0, begin, lap, rest) for begin, lap in found]
                    self.assertNotEqual(one, other)
        self.assertGreater(min(counts), 60)


if __name__ == "__main__":
    unittest.main()

"""[61], [62]: silent steps, live yards, ranks, silent streams."""

import unittest

from flowyard import errors
from flowyard.watch import are_ranks, is_live, is_silent_stream, ranks, silent_stream
from flowyard.yards import Yard, joined
from helper import COPY, HALF, SPLIT, Cases, Dice, no_counts, odd_values
from slow_rests import Steps, endless_streams
from slow_watch import longest_silent
from some_held import some_held
from some_looked import fails_looking
from some_yards import COPIES, EATING, HOLDS, LATE, ONES, STOPS, TURNING, counting, doubling, only
from spoiling import with_tuples, wrong_kinds

HALVES = Yard([HALF], [])
ZEROS = Yard([only("0")], [])
TWO_EXITS = Yard([SPLIT], [])
FIRST_ONLY = Yard([COPY, EATING.stations[0]], [(0, 1, 1, 0)])


class Live(Cases):
    def test_the_documents_yard(self):
        self.same([ranks(HALVES, 0), is_live(HALVES, 0), silent_stream(HALVES, 0)], [[1, 0], True, None])

    def test_live_ones(self):
        for yard, told in [(COPIES, [0]), (TURNING, [0]), (LATE, [0, 0]), (HOLDS, [1, 0, 0]), (ONES, [0]),
                           (joined(HALVES, 0, HALVES), [3, 2, 1, 0])]:
            self.same([ranks(yard, 0), is_live(yard, 0), silent_stream(yard, 0)], [told, True, None])
            self.assertIs(are_ranks(yard, 0, told), True)

    def test_silent_ones(self):
        for yard in (EATING, STOPS, ZEROS, joined(ZEROS, 0, HALVES), joined(HALVES, 0, ZEROS)):
            self.same([ranks(yard, 0), is_live(yard, 0)], [None, False])
            self.silent(yard, 0, silent_stream(yard, 0))

    def silent(self, yard, outlet, value):
        self.assertIsInstance(value, tuple)
        self.assertIs(is_silent_stream(yard, outlet, value), True)
        self.same(Steps(yard).endless_flow(outlet, *value)[1], "")

    def test_by_the_exit(self):
        self.same([ranks(TWO_EXITS, 0), ranks(TWO_EXITS, 1)], [[0, 1], [1, 0]])
        self.same([is_live(FIRST_ONLY, 0), ranks(outlet=0, yard=FIRST_ONLY)], [True, [0]])
        apart = Yard([SPLIT, only("0"), only("1")], [(0, 0, 1, 0), (0, 1, 2, 0)])
        self.same([is_live(apart, 0), is_live(apart, 1)], [False, False])
        self.same([is_silent_stream(apart, 0, ("", "01")), is_silent_stream(apart, 0, ("", "10"))], [False, True])
        self.same([is_silent_stream(apart, 1, ("", "01")), is_silent_stream(apart, 1, ("", "10"))], [False, True])
        self.same([is_silent_stream(apart, 1, ("", "00")), is_silent_stream(apart, 0, ("", "00"))], [True, False])

    def test_what_the_empty_stream_gives_is_no_step(self):
        begun = joined(Yard([HALF, HALF], [(0, 0, 1, 0)], ((0, 0), ("111",))), 0, COPIES)
        self.same(ranks(begun, 0), [1, 0, 3, 2])

    def test_many(self):
        dice = Dice(621)
        counts = [0, 0]
        for _ in range(120):
            yard = some_held(dice)
            steps = Steps(yard)
            many = len(steps.rests)
            slow = [longest_silent(steps, 0, rest, many) for rest in range(many)]
            live = max(slow) < many
            counts[live] += 1
            self.same(is_live(yard, 0), live)
            self.same(ranks(yard, 0), slow if live else None)
            stream = silent_stream(yard, 0)
            self.same(stream is None, live)
            if not live:
                self.silent(yard, 0, stream)
            for begin, lap in endless_streams(1, 2):
                self.assertIs(is_silent_stream(yard, 0, (begin, lap)), steps.endless_flow(0, begin, lap)[1] == "")
        self.assertGreater(min(counts), 30)

    def test_the_greatest_yards(self):
        # Sixty rests: of sixty-three signs at the most one is given for each sixteenth.
        self.same(is_live(counting(60), 0), False)
        self.silent(counting(60), 0, silent_stream(counting(60), 0))
        self.same(is_live(doubling(4), 0), True)


class Ranks(Cases):
    def test_greater_ones_will_do(self):
        for value, wanted in [([1, 0], True), ([5, 0], True), ([5, 4], True), ((1, 0), True), ([0, 0], False),
                              ([1, 1], False),
                              ([0, 1], False), ([1], False), ([1, 0, 0], False), ([10 ** 29, 3], True)]:
            self.assertIs(are_ranks(HALVES, 0, value), wanted)
        for value, wanted in [([1, 0, 0], True), ([2, 1, 0], True), ([2, 0, 1], True), ([1, 1, 0], False),
                              ([1, 0, 1], False)]:
            self.assertIs(are_ranks(value=value, outlet=0, yard=HOLDS), wanted)

    def test_of_yards_that_are_not_live_there_are_none(self):
        for yard in (EATING, ZEROS, STOPS, joined(HALVES, 0, EATING)):
            many = len(Steps(yard).rests)
            for value in ([0] * many, list(range(many)), list(range(many))[::-1], [5, 3, 1, 0][:many]):
                self.assertIs(are_ranks(yard, 0, value), False)

    def test_all_small_lists(self):
        dice = Dice(622)
        held = 0
        for _ in range(40):
            yard = some_held(dice)
            steps = Steps(yard)
            for _ in range(30):
                value = [dice.below(3) for _ in steps.rests]
                wanted = all(value[goal] < value[rest] for rest, row in enumerate(steps.steps)
                             for goal, texts in row if texts[0] == "")
                held += wanted
                self.assertIs(are_ranks(yard, 0, value), wanted)
        self.assertGreater(held, 100)

    def test_any_value(self):
        for value in odd_values() + [[], (), "10", 0, [None, 0], ["1", "0"], [True, 0], [1, False], [1, -1], [[1], [0]],
                                     {0: 1, 1: 0}, [(1, 0)], [1, None]]:
            self.assertIs(are_ranks(HALVES, 0, value), False)
        for value in wrong_kinds([1, 0]):
            self.assertIs(are_ranks(HALVES, 0, value), False)
        self.assertIs(are_ranks(HALVES, 0, with_tuples([1, 0])), True)


class SilentStreams(Cases):
    def test_short_ones(self):
        for begin, lap, wanted in [("", "1", True), ("", "11", True), ("00", "1", True), ("1", "0", False),
                                   ("", "10", False),
                                   ("0" * 1000, "1" * 1000, True), ("0" * 1000, "1" * 999 + "0", False)]:
            self.assertIs(is_silent_stream(ZEROS, 0, (begin, lap)), wanted)
        for stream in endless_streams(2, 3):
            self.assertIs(is_silent_stream(EATING, 0, stream), True)
            self.assertIs(is_silent_stream(COPIES, 0, stream), False)
            self.assertIs(is_silent_stream(STOPS, 0, stream), "1" in stream[0] + stream[1])

    def test_of_up_to_a_thousand_signs(self):
        self.assertIs(is_silent_stream(EATING, 0, ("0" * 1000, "0" * 1000)), True)
        self.assertIs(is_silent_stream(EATING, 0, ("0" * 1001, "0")), False)
        self.assertIs(is_silent_stream(EATING, 0, ("", "0" * 1001)), False)

    def test_any_value(self):
        for value in odd_values() + [[], (), "", "01", 0, ("",), ("", ""), ["", "0"], ("", "0", ""), ("0", ""),
                                     (0, "0"), ("", 0),
                                     (None, "0"), ("", ["0"]), ("2", "0"), ("", "2"), {"": "0"}]:
            self.assertIs(is_silent_stream(EATING, 0, value), False)
        for value in wrong_kinds(("1", "01")):
            self.assertIs(is_silent_stream(EATING, 0, value), False)
        self.assertIs(is_silent_stream(value=("", "0"), outlet=0, yard=EATING), True)


class Errors(Cases):
    def test_exits(self):
        calls = [is_live, ranks, silent_stream, lambda yard, outlet: are_ranks(yard, outlet, None),
                 lambda yard, outlet: is_silent_stream(yard, outlet, None)]
        for call in calls:
            self.fails_on(errors.InvalidExit, no_counts() + [1, 2], lambda value: call(COPIES, value))
            self.fails_on(errors.InvalidExit, [2, None, True], lambda value: call(TWO_EXITS, value))
            self.fails_on(errors.InvalidExit, [1, None], lambda value: call(counting(61), value))

    def test_looking_through(self):
        for call in (is_live, ranks, silent_stream):
            fails_looking(self, lambda yard: call(yard, 0))
        for call in (are_ranks, is_silent_stream):
            for value in (None, [0], ("", "0")):
                fails_looking(self, lambda yard: call(yard, 0, value))

    def test_nothing_is_changed(self):
        value = [1, 0]
        self.assertIs(are_ranks(HALVES, 0, value), True)
        self.same(value, [1, 0])
        value.append(0)
        self.assertIs(are_ranks(HALVES, 0, value), False)
        found = ranks(HALVES, 0)
        found.clear()
        self.same(ranks(HALVES, 0), [1, 0])


if __name__ == "__main__":
    unittest.main()

"""[66]: gaps, the least heights, and heights for a number."""

import unittest

from flowyard import errors
from flowyard.watch import are_gap_heights, gap, gap_heights
from flowyard.yards import Station, Yard, joined
from helper import TWICE, Cases, Dice, no_counts, odd_values
from some_looked import fails_looking
from some_wishes import LAST, ONE, ROUND
from some_yards import COPIES, EATING, ONES, STOPS, counting, doubling
from spoiling import few, wrong_kinds
from test_lots import TURNS, WRONG_LOTS, some_watched
from test_watch import HALVES, TWO_EXITS

# It gives 0001 for each sign.
FOURS = Yard([TWICE, Station(1, 1, [("1", [(("00",), 1, 1)] * 2), ("1", [(("01",), 0, 1)] * 2)])], [(0, 0, 1, 0)])


class Gaps(Cases):
    def test_the_documents_yards(self):
        self.same([gap(TURNS, 0, LAST, [1]), gap_heights(TURNS, 0, LAST, [1]), gap(HALVES, 0, LAST, [1])],
                  [1, {(0, 0): 0, (0, 1): 0, (1, 0): 1}, None])

    def test_some(self):
        for yard, wish, lot, told in [(COPIES, LAST, [0, 1], 0), (COPIES, LAST, [0], None), (COPIES, ONE, [0], 0),
                                      (EATING, LAST, [1], 0),
                                      (ONES, LAST, [1], 0), (ONES, LAST, [0], None), (FOURS, LAST, [1], 3),
                                      (FOURS, LAST, (0,), 1),
                                      (ONES, ROUND, [0], 0), (ONES, ROUND, [1], None), (TURNS, ROUND, [3], 6)]:
            self.same(gap(yard, 0, wish, lot), told)
            self.same(gap_heights(yard, 0, wish, lot) is None, told is None)

    def test_of_finite_flows(self):
        # Three ones are given, and never more.
        three = Yard([Station(1, 1, [("1", [(("1",), min(k + 1, 3), 1)] * 2)
                                     for k in range(3)] + [("1", [(("",), 3, 1)] * 2)])], [])
        self.same([gap(three, 0, LAST, [0]), gap(three, 0, LAST, [1])], [3, 0])
        self.same(gap_heights(three, 0, LAST, [0]), {(0, 0): 0, (1, 1): 1, (2, 1): 2, (3, 1): 3})
        self.same([gap(STOPS, 0, LAST, [1]), gap(STOPS, 0, LAST, [0])], [None, 0])

    def test_what_the_empty_stream_gives_is_counted(self):
        begun = Yard([EATING.stations[0], COPIES.stations[0], TWICE], [(0, 0, 1, 0), (1, 0, 2, 0)],
                     ((0, 0, 0), ("", "001")))
        self.same([gap(begun, 0, LAST, [1]), gap(begun, 0, LAST, [0])], [4, 2])
        self.same([gap_heights(begun, 0, LAST, [1]), gap_heights(begun, 0, LAST, [0])], [{(0, 1): 0}, {(0, 1): 2}])
        self.assertIs(are_gap_heights(begun, 0, LAST, [1], 3, {(0, 1): 0}), False)
        self.assertIs(are_gap_heights(begun, 0, LAST, [1], 4, {(0, 1): 0}), True)
        self.assertIs(are_gap_heights(begun, 0, LAST, [0], 2, {(0, 1): 1}), False)

    def test_within_what_one_sign_gives(self):
        # The greatest count is within a text, not at the end of one.
        self.same(gap_heights(FOURS, 0, LAST, [1]), {(0, 0): 0, (0, 1): 0})
        for number, wanted in [(2, False), (3, True), (4, True), (10 ** 29, True)]:
            self.assertIs(are_gap_heights(FOURS, 0, LAST, [1], number, {(0, 0): 0, (0, 1): 0}), wanted)
        self.same(gap(joined(FOURS, 0, FOURS), 0, LAST, [1]), 3)

    def test_by_the_exit(self):
        self.same([gap(TWO_EXITS, 1, ONE, [0]), gap(lot=[0, 1], wish=LAST, outlet=0, yard=TWO_EXITS)], [0, 0])

    def test_many_by_the_flows_of_all_short_streams(self):
        dice = Dice(661)
        counts = [0, 0, 0]
        for _ in range(120):
            yard, wish, slow = some_watched(dice)
            for lot in few(wish.lots(), 3):
                number = gap(yard, 0, wish, lot)
                heights = gap_heights(yard, 0, wish, lot)
                longest, at_end = slow.runs_ahead_of(lot, 7)
                self.same(heights is None, number is None)
                if number is None:
                    # So one can go round where none is passed.
                    self.assertGreaterEqual(longest, 1)
                    self.assertTrue([told for told in wish.lots() if not set(told) & set(lot)
                                     and not slow.are_bars(told, {node: 0 for node in slow.nodes})])
                    counts[0] += 1
                    continue
                counts[1 + (number > 1)] += 1
                self.assertLessEqual(longest, number)
                self.same(list(heights), sorted(slow.nodes))
                self.assertTrue(all(count <= heights[node] for node, count in at_end.items()))
                if len(slow.nodes) <= 6:
                    self.same([longest, at_end], [number, {node: heights[node] for node in at_end}])
                self.assertIs(slow.are_heights(lot, number, heights), True)
                self.assertIs(are_gap_heights(yard, 0, wish, lot, number, heights), True)
                if number:
                    self.assertIs(slow.are_heights(lot, number - 1, heights), False)
                for node, count in heights.items():
                    self.assertIs(slow.are_heights(lot, number, {**heights, node: count - 1}), False)
        self.assertGreater(min(counts), 15)


class Heights(Cases):
    def test_many_by_the_words_of_the_point(self):
        dice = Dice(662)
        counts = [0, 0]
        for _ in range(60):
            yard, wish, slow = some_watched(dice)
            lot = dice.one_of(wish.lots())
            number = gap(yard, 0, wish, lot)
            heights = gap_heights(yard, 0, wish, lot) or {node: 2 for node in slow.nodes}
            for _ in range(12):
                told = {node: max(0, count + dice.one_of([0, 0, 0, 1, -1])) for node, count in heights.items()}
                most = max(0, (number or 3) + dice.one_of([-1, 0, 0, 1, 2]))
                wanted = slow.are_heights(lot, most, told)
                counts[wanted] += 1
                self.assertIs(are_gap_heights(yard, 0, wish, lot, most, told), wanted)
        self.assertGreater(min(counts), 100)

    def test_greater_ones_up_to_the_number(self):
        value = {(0, 0): 0, (0, 1): 0, (1, 0): 1}
        for number, change, wanted in [(1, {}, True), (0, {}, False), (2, {(1, 0): 2}, True), (1, {(1, 0): 2}, False),
                                       (2, {}, True),
                                       (1, {(0, 1): 1}, False), (2, {(0, 1): 1}, False),
                                       (3, {(0, 1): 1, (1, 0): 2}, True),
                                       (2, {(0, 1): 1, (1, 0): 2}, True), (1, {(0, 0): 1}, False),
                                       (1, {(1, 0): 0}, False)]:
            self.assertIs(are_gap_heights(TURNS, 0, LAST, [1], number, {**value, **change}), wanted, (number, change))

    def test_without_a_greatest_gap_there_are_none(self):
        for number in (0, 1, 5, 100):
            self.assertIs(are_gap_heights(COPIES, 0, LAST, [0], number, {(0, 0): 0, (0, 1): number}), False)

    def test_any_value(self):
        value = {(0, 0): 0, (0, 1): 0, (1, 0): 1}
        self.assertIs(are_gap_heights(value=value, number=1, lot=(1,), wish=LAST, outlet=0, yard=TURNS), True)
        self.assertIs(are_gap_heights(TURNS, 0, LAST, [1], 1, {node: value[node] for node in sorted(value)[::-1]}),
                      True)
        for wrong in wrong_kinds(value) + odd_values() + [[], (), 0, "", {}, {**value, None: 0}, {**value, (1, 1): 0}]:
            self.assertIs(are_gap_heights(TURNS, 0, LAST, [1], 1, wrong), False)
        for node in value:
            less = {other: count for other, count in value.items() if other != node}
            self.assertIs(are_gap_heights(TURNS, 0, LAST, [1], 1, less), False)
        for key, other in [((0, 0), (False, 0)), ((0, 1), (0, True)), ((1, 0), (True, 0)), ((1, 0), 1), ((1, 0), "10"),
                           ((1, 0), (1,))]:
            spoilt = {(other if node == key else node): count for node, count in value.items()}
            self.assertIs(are_gap_heights(TURNS, 0, LAST, [1], 1, spoilt), False)
        for node in value:
            for other in [(1, 1), (2, 0), (5, 5), (0, 2)]:
                spoilt = {(other if each == node else each): count for each, count in value.items()}
                self.assertIs(are_gap_heights(TURNS, 0, LAST, [1], 1, spoilt), False)
        for count in (-1, False, None, "0", [0]):
            self.assertIs(are_gap_heights(TURNS, 0, LAST, [1], 1, {**value, (0, 0): count}), False)
        self.assertIs(are_gap_heights(TURNS, 0, LAST, [1], 1, {**value, (1, 0): True}), False)

    def test_nothing_is_changed(self):
        value = gap_heights(TURNS, 0, LAST, [1])
        lot = [1]
        self.assertIs(are_gap_heights(TURNS, 0, LAST, lot, 1, value), True)
        self.same([lot, value], [[1], {(0, 0): 0, (0, 1): 0, (1, 0): 1}])
        value.clear()
        self.same(gap_heights(TURNS, 0, LAST, [1]), {(0, 0): 0, (0, 1): 0, (1, 0): 1})


class Errors(Cases):
    def test_exits_then_lots_then_numbers(self):
        wrong = no_counts() + [1, 10 ** 29]
        for call in (gap, gap_heights):
            self.fails_on(errors.InvalidExit, wrong, lambda value: call(COPIES, value, LAST, None))
            self.fails_on(errors.InvalidLot, WRONG_LOTS, lambda value: call(counting(61), 0, LAST, value))
        self.fails_on(errors.InvalidExit, wrong, lambda value: are_gap_heights(COPIES, value, LAST, None, None, None))
        self.fails_on(errors.InvalidLot, WRONG_LOTS,
                      lambda value: are_gap_heights(counting(61), 0, LAST, value, None, None))
        self.fails_on(errors.InvalidNumber, no_counts(),
                      lambda value: are_gap_heights(counting(61), 0, LAST, [0], value, {}))
        self.fails(errors.InvalidNumber, {"value": -1}, are_gap_heights, value=None, number=-1, lot=[0], wish=LAST,
                   outlet=0, yard=COPIES)

    def test_looking_through(self):
        for call in (gap, gap_heights):
            fails_looking(self, lambda yard: call(yard, 0, LAST, [0]))
        for value in (None, {}, {(0, 0): 0}):
            fails_looking(self, lambda yard: are_gap_heights(yard, 0, LAST, [0], 0, value))

    def test_great_yards(self):
        self.same([gap(counting(60), 0, LAST, [1]), gap(doubling(4), 0, LAST, [0, 1]), gap(doubling(4), 0, LAST, [1])],
                  [0, 0, None])
        ones = Yard([TWICE, TWICE, TWICE, TWICE,
                     Station(1, 1, [("1", [(("0",), 0, 1), (("1",), 1, 1)]), ("1", [(("0",), 0, 1)] * 2)])],
                    [(k, 0, k + 1, 0) for k in range(4)])
        self.same([gap(ones, 0, LAST, [0]), gap(ones, 0, LAST, [1])], [1, None])


if __name__ == "__main__":
    unittest.main()

"""[64], [65]: nodes, passed lots, witnesses and bars, kept papers and breakers."""

import unittest
from itertools import product

from flowyard import errors
from flowyard.watch import (are_bars, bars, breaker, is_breaker, is_kept, is_kept_paper, is_witness, kept_paper, nodes,
                            passed_lots, witness)
from flowyard.wishes import Wish
from flowyard.yards import Station, Yard, joined
from helper import Cases, Dice, no_counts, odd_values
from slow_rests import all_texts, endless_streams
from slow_watch import Watching
from some_held import some_held
from some_looked import fails_looking
from some_wishes import ALL_LOTS, LAST, ONE, ROUND, some_wish
from some_yards import BEGUN, COPIES, EATING, HOLDS, ONES, STOPS, counting, doubling, only
from spoiling import few, with_tuples, wrong_kinds
from test_watch import HALVES, TWO_EXITS

TURNS = Yard([Station(1, 1, [("1", [(("0",), 1, 1)] * 2), ("1", [(("1",), 0, 1)] * 2)])], [])
WRONG_LOTS = odd_values() + [[], (), [2], [-1], [1, 0], [0, 0], [0, 1, 2], [True], [False, 1], "0", 0, [[0]], {0: 1},
                             (0, True)]
# At rest 0 it goes round by 0 among places 0 and 1, behind a 1 among places 2 and 3, and never back.
TWO_ROUNDS = Wish([(1, 2), (0, 2), (3, 2), (2, 2)], [[0, 1], [2, 3]])


def some_watched(dice):
    yard = some_held(dice)
    wish = some_wish(dice)
    return yard, wish, Watching(yard, 0, wish)


class Nodes(Cases):
    def test_the_documents_yards(self):
        self.same([nodes(HALVES, 0, LAST), nodes(TURNS, 0, LAST), nodes(COPIES, 0, LAST)],
                  [[(0, 0), (0, 1), (1, 0), (1, 1)], [(0, 0), (0, 1), (1, 0)], [(0, 0), (0, 1)]])

    def test_what_the_empty_stream_gives_leads_the_wish_on(self):
        self.same(nodes(BEGUN, 0, ROUND), [(0, place) for place in range(4)])
        once = Wish([(1, 1), (2, 2), (3, 3), (3, 3)], [])
        self.same(nodes(joined(BEGUN, 0, EATING), 0, once), [(0, 0)])
        begun = Yard([EATING.stations[0], COPIES.stations[0], COPIES.stations[0]], [(0, 0, 1, 0), (1, 0, 2, 0)],
                     ((0, 0, 0), ("", "01")))
        self.same(nodes(begun, 0, once), [(0, 2)])
        self.same(passed_lots(begun, 0, once), [])

    def test_by_the_exit(self):
        self.same([nodes(TWO_EXITS, 0, ONE), nodes(wish=LAST, outlet=1, yard=TWO_EXITS)],
                  [[(0, 0), (1, 0)], [(0, 0), (0, 1), (1, 0), (1, 1)]])

    def test_many_by_all_short_streams(self):
        dice = Dice(641)
        for _ in range(60):
            yard, wish, slow = some_watched(dice)
            found = nodes(yard, 0, wish)
            self.same(found, sorted(slow.nodes))
            short = {slow.node_behind(stream) for stream in all_texts(6)}
            self.assertLessEqual(short, set(found))
            if len(found) <= 6:
                self.same(sorted(short), found)

    def test_of_many_rests(self):
        self.same(nodes(counting(60), 0, ROUND), sorted(Watching(counting(60), 0, ROUND).nodes))
        self.same(len(nodes(joined(COPIES, 0, HOLDS), 0, ROUND)), 12)


class PassedLots(Cases):
    def test_the_documents_yards(self):
        self.same([passed_lots(HALVES, 0, LAST), is_witness(HALVES, 0, LAST, [1], ("", "01")), is_kept(TURNS, 0, LAST)],
                  [[[0], [1], [0, 1]], True, True])
        self.same(are_bars(TURNS, 0, LAST, [1], {(0, 0): 0, (0, 1): 0, (1, 0): 1}), True)

    def test_some(self):
        for yard, wish, lots in [(COPIES, LAST, [[0], [1], [0, 1]]), (TURNS, LAST, [[0, 1]]), (ONES, LAST, [[1]]),
                                 (EATING, LAST, []), (STOPS, LAST, [[0]]), (COPIES, ONE, [[0]]), (EATING, ONE, []),
                                 (COPIES, TWO_ROUNDS, [[2], [0, 1], [2, 3]]), (ONES, ROUND, [[0]]),
                                 (TURNS, ROUND, [[0, 1, 2, 3]])]:
            self.same(passed_lots(yard, 0, wish), lots)

    def test_place_0_is_passed_by_signs_alone(self):
        leaves = Wish([(1, 1), (1, 1)], [])
        self.same(passed_lots(COPIES, 0, leaves), [[1]])
        self.same(bars(COPIES, 0, leaves, [0]) is None, False)

    def test_many_by_going_round_all_short_laps(self):
        dice = Dice(642)
        counts = [0, 0]
        for _ in range(90):
            yard, wish, slow = some_watched(dice)
            lots = passed_lots(yard, 0, wish)
            seen = {tuple(slow.lot_of(begin, lap) or ()) for begin, lap in endless_streams(2, 4)} - {()}
            self.assertLessEqual(seen, {tuple(lot) for lot in lots})
            self.same(lots, [lot for lot in wish.lots() if lot in lots])
            for lot in wish.lots():
                counts[lot in lots] += 1
                told = witness(yard, 0, wish, lot)
                barred = bars(yard, 0, wish, lot)
                self.same([told is not None, barred is None], [lot in lots] * 2)
                if told is not None:
                    self.same(slow.lot_of(*told), lot)
                    self.assertLessEqual(max(len(text) for text in told), 1000)
                    self.assertIs(is_witness(yard, 0, wish, lot, told), True)
                else:
                    self.assertIs(slow.are_bars(lot, barred), True)
                    self.assertIs(are_bars(yard, 0, wish, lot, barred), True)
                    self.same(list(barred), sorted(barred))
        self.assertGreater(min(counts), 100)

    def test_laps_through_many_nodes(self):
        # Each place comes once in sixty signs or more, and all four have to be passed in one lap.
        wide = Wish([(1, 0), (2, 1), (3, 2), (0, 3)], [])
        last = Yard([only("1"), *counting(60).stations[1:]], counting(60).pipes, counting(60).begin)
        for yard in (last, counting(60), counting(60, only("0"))):
            value = witness(yard, 0, wide, [0, 1, 2, 3])
            self.assertIs(is_witness(yard, 0, wide, [0, 1, 2, 3], value) if value else False, value is not None)
            self.assertIs(value is None, bars(yard, 0, wide, [0, 1, 2, 3]) is not None)
        around = Yard([only("0"), *[only("0")] * 0, *counting(16).stations[1:3], COPIES.stations[0]],
                      [(0, 0, 1, 0), (1, 0, 2, 0), (2, 0, 3, 0)])
        value = witness(around, 0, wide, [0, 1, 2, 3])
        self.assertIs(is_witness(around, 0, wide, [0, 1, 2, 3], value), True)
        self.assertLessEqual(len(value[1]), 1000)
        self.assertGreaterEqual(value[1].count("0"), 64)


class Witnesses(Cases):
    def test_all_short_ones(self):
        dice = Dice(643)
        counts = [0, 0]
        for _ in range(15):
            yard, wish, slow = some_watched(dice)
            for stream in endless_streams(1, 3):
                told = slow.lot_of(*stream)
                for lot in wish.lots():
                    counts[told == lot] += 1
                    self.assertIs(is_witness(yard, 0, wish, lot, stream), told == lot)
                    self.assertIs(is_witness(yard, 0, wish, tuple(lot), stream), told == lot)
        self.assertGreater(min(counts), 100)

    def test_of_up_to_a_thousand_signs(self):
        for begin, lap, wanted in [("1" * 1000, "0" * 1000, True), ("1" * 1001, "0", False), ("", "0" * 1001, False),
                                   ("0", "0" * 999 + "1", False)]:
            self.assertIs(is_witness(COPIES, 0, LAST, [0], (begin, lap)), wanted)
        # What is given, and passed, is sixteen times as long.
        self.assertIs(is_witness(doubling(4), 0, ROUND, [0, 1, 2, 3], ("1" * 1000, "0" * 1000)), True)

    def test_finite_flows_are_none(self):
        for lot in ([0], [1], [0, 1]):
            self.assertIs(is_witness(EATING, 0, LAST, lot, ("", "0")), False)
            self.assertIs(is_witness(STOPS, 0, LAST, lot, ("0", "01")), False)
        self.assertIs(is_witness(EATING, 0, ONE, [0], ("", "0")), False)

    def test_any_value(self):
        for value in odd_values() + [[], (), "", "01", 0, ("",), ("", ""), ["", "0"], ("", "0", ""), ("0", ""),
                                     (0, "0"), ("", 0),
                                     (None, "0"), ("", ["0"]), ("2", "0"), ("", "2")]:
            self.assertIs(is_witness(COPIES, 0, LAST, [0], value), False)
        for value in wrong_kinds(("0", "0")):
            self.assertIs(is_witness(COPIES, 0, LAST, [0], value), False)
        self.assertIs(is_witness(value=("0", "0"), lot=(0,), wish=LAST, outlet=0, yard=COPIES), True)


class Bars(Cases):
    def test_less_more_and_other_counts(self):
        value = {(0, 0): 0, (0, 1): 0, (1, 0): 1}
        for change, wanted in [({(1, 0): 2}, True), ({(1, 0): 0}, False), ({(0, 0): 1}, True), ({(0, 1): 1}, False),
                               ({(0, 1): 2}, False), ({(0, 0): 5}, True), ({(1, 1): 0}, False), ({(2, 0): 0}, False)]:
            self.assertIs(are_bars(TURNS, 0, LAST, [1], {**value, **change}), wanted, change)
        for node in value:
            self.assertIs(are_bars(TURNS, 0, LAST, [1], {other: count for other,
                                                         count in value.items() if other != node}), False)
        turned = {node: value[node] for node in sorted(value, reverse=True)}
        self.assertIs(are_bars(value=turned, lot=(1,), wish=LAST, outlet=0, yard=TURNS), True)
        self.assertIs(are_bars(TURNS, 0, LAST, [0, 1], value), False)

    def test_many_by_the_words_of_the_point(self):
        dice = Dice(644)
        counts = [0, 0]
        for _ in range(60):
            yard, wish, slow = some_watched(dice)
            for lot in few(wish.lots(), 4):
                value = bars(yard, 0, wish, lot) or {node: 0 for node in slow.nodes}
                for _ in range(6):
                    told = {node: max(0, count + dice.one_of([0, 0, 0, 1, -1])) for node, count in value.items()}
                    wanted = slow.are_bars(lot, told)
                    counts[wanted] += 1
                    self.assertIs(are_bars(yard, 0, wish, lot, told), wanted)
        self.assertGreater(min(counts), 150)

    def test_counts_that_fall_all_the_way(self):
        value = bars(HOLDS, 0, Wish([(1, 1), (2, 2), (0, 0)], []), [0, 1])
        self.assertIs(are_bars(HOLDS, 0, Wish([(1, 1), (2, 2), (0, 0)], []), [0, 1], value), True)
        # Steps that leave the lot need not lead to lesser counts.
        self.same(are_bars(TURNS, 0, LAST, [0], {(0, 0): 3, (0, 1): 9, (1, 0): 3}), False)
        self.same(are_bars(TURNS, 0, LAST, [0], {(0, 0): 3, (0, 1): 9, (1, 0): 2}), True)

    def test_of_lots_with_a_witness_there_are_none(self):
        for lot in ([0], [1], [0, 1]):
            for counts in product(range(3), repeat=2):
                self.assertIs(are_bars(COPIES, 0, LAST, lot, dict(zip([(0, 0), (0, 1)], counts))), False)

    def test_any_value(self):
        value = {(0, 0): 0, (0, 1): 0, (1, 0): 1}
        self.assertIs(are_bars(TURNS, 0, LAST, [1], value), True)
        for wrong in wrong_kinds(value) + odd_values() + [[], (), 0, "", {}, {**value, None: 0},
                                                          {**value, (True, 1): 0}]:
            self.assertIs(are_bars(TURNS, 0, LAST, [1], wrong), False)
        for key, other in [((0, 0), (False, 0)), ((0, 1), (0, True)), ((1, 0), (True, 0)), ((1, 0), "10"), ((1, 0), 1),
                           ((1, 0), (1, 0, 0)), ((1, 0), frozenset([1, 0])), ((1, 0), (1, None))]:
            spoilt = {(other if node == key else node): count for node, count in value.items()}
            self.assertIs(are_bars(TURNS, 0, LAST, [1], spoilt), False)
        for node in value:
            for other in [(1, 1), (2, 0), (5, 5), (0, 2), (-1, 0)]:
                spoilt = {(other if each == node else each): count for each, count in value.items()}
                self.assertIs(are_bars(TURNS, 0, LAST, [1], spoilt), False)
        for count in (-1, True, False, None, "0", [0]):
            self.assertIs(are_bars(TURNS, 0, LAST, [1], {**value, (0, 0): count}), False)

    def test_nothing_is_changed(self):
        value = bars(TURNS, 0, LAST, [1])
        before = repr(value)
        self.assertIs(are_bars(TURNS, 0, LAST, [1], value), True)
        self.assertEqual(repr(value), before)
        value.clear()
        self.assertEqual(repr(bars(TURNS, 0, LAST, [1])), before)


class Kept(Cases):
    def test_some(self):
        for yard, wish, kept in [(TURNS, LAST, True), (COPIES, LAST, False), (EATING, LAST, True),
                                 (EATING, Wish([(0, 0)], []), True),
                                 (COPIES, ONE, False), (COPIES, ~ONE, True), (STOPS, LAST, False), (STOPS, ~LAST, True),
                                 (ONES, Wish(LAST.goals(), [[1]]), True),
                                 (COPIES, Wish(LAST.goals(), LAST.lots()), True)]:
            self.same([is_kept(yard, 0, wish), kept_paper(yard, 0, wish) is not None, breaker(yard, 0, wish) is None],
                      [kept] * 3)

    def test_papers_have_all_lots_that_are_not_good(self):
        paper = kept_paper(TURNS, 0, LAST)
        self.same([lot for lot, _ in paper], [[0], [1]])
        self.same([kept_paper(COPIES, 0, Wish([(0, 0)], [[0]])), is_kept_paper(COPIES, 0, ~ONE, [])], [[], True])
        nothing = kept_paper(EATING, 0, Wish(TWO_ROUNDS.goals(), []))
        self.same([lot for lot, _ in nothing], TWO_ROUNDS.lots())

    def test_many(self):
        dice = Dice(651)
        counts = [0, 0]
        for _ in range(150):
            yard, wish, slow = some_watched(dice)
            if dice.below(2):
                # Most drawn wishes are broken: good are those that are passed, and some more.
                passed = passed_lots(yard, 0, wish)
                wish = Wish(wish.goals(), [lot for lot in wish.lots() if lot in passed or dice.below(2)])
                slow = Watching(yard, 0, wish)
            kept = is_kept(yard, 0, wish)
            counts[kept] += 1
            lots = [slow.lot_of(*stream) for stream in endless_streams(1, 3)]
            broken = [lot for lot in lots if lot is not None and lot not in wish.good()]
            paper, stream = kept_paper(yard, 0, wish), breaker(yard, 0, wish)
            self.same([paper is not None, stream is None], [kept, kept])
            if kept:
                self.same(broken, [])
                self.same([lot for lot, _ in paper], (~wish).good())
                for lot, barred in paper:
                    self.assertIs(slow.are_bars(lot, barred), True)
                self.assertIs(is_kept_paper(yard, 0, wish, paper), True)
                self.assertIs(is_kept_paper(yard, 0, wish, with_tuples(paper)), True)
            else:
                self.assertIs(is_breaker(yard, 0, wish, stream), True)
                self.assertNotIn(slow.lot_of(*stream), wish.good() + [None])
        self.assertGreater(min(counts), 30)

    def test_kept_papers_less_more_and_twice(self):
        for yard, wish in [(TURNS, LAST), (STOPS, ~LAST), (EATING, Wish(TWO_ROUNDS.goals(), []))]:
            paper = kept_paper(yard, 0, wish)
            self.assertIs(is_kept_paper(yard, 0, wish, tuple(paper)), True)
            for at in range(len(paper)):
                self.assertIs(is_kept_paper(yard, 0, wish, paper[:at] + paper[at + 1:]), False)
                self.assertIs(is_kept_paper(yard, 0, wish, paper[:at] + [paper[at]] + paper[at:]), False)
            if len(paper) > 1:
                self.assertIs(is_kept_paper(yard, 0, wish, paper[::-1]), False)
            for good in wish.good():
                self.assertIs(is_kept_paper(yard, 0, wish, paper + [(good, paper[0][1])]), False)
            for value in few(wrong_kinds(paper), 80):
                self.assertIs(is_kept_paper(yard, 0, wish, value), False)

    def test_kept_papers_of_any_value(self):
        paper = kept_paper(TURNS, 0, LAST)
        for value in odd_values() + [[], (), "", 0, [None] * 2, [()] * 2, [([0],)] * 2, [([0], None), ([1], None)]]:
            self.assertIs(is_kept_paper(TURNS, 0, LAST, value), False)
        for lot in ([False], [True], (0, 1), [0, 0], "0", 0, None, {0: 1}, [None]):
            self.assertIs(is_kept_paper(TURNS, 0, LAST, [(lot, paper[0][1]), paper[1]]), False)
        self.assertIs(is_kept_paper(TURNS, 0, LAST, [([0], paper[1][1]), ([1], paper[0][1])]), False)
        self.assertIs(is_kept_paper(TURNS, 0, LAST, [((0,), paper[0][1]), paper[1]]), True)
        self.assertIs(is_kept_paper(TURNS, 0, LAST, [[*paper[0]], paper[1]]), False)
        self.assertIs(is_kept_paper(value=paper, wish=LAST, outlet=0, yard=TURNS), True)
        # There is nothing to be barred here.
        for value in odd_values() + ["", 0, [None]]:
            self.assertIs(is_kept_paper(COPIES, 0, ~ONE, value), False)

    def test_breakers(self):
        dice = Dice(652)
        for _ in range(20):
            yard, wish, slow = some_watched(dice)
            for stream in endless_streams(1, 3):
                self.assertIs(is_breaker(yard, 0, wish, stream), slow.lot_of(*stream) not in wish.good() + [None])
        self.assertIs(is_breaker(COPIES, 0, LAST, ("0" * 1000, "1" * 1000)), True)
        for value in [("0" * 1001, "1"), ("", "1" * 1001), ("", "")]:
            self.assertIs(is_breaker(COPIES, 0, LAST, value), False)
        for value in odd_values() + [[], (), "", "01", 0, ("",), ["", "0"], ("", "0", ""), (0, "0"), ("", 0),
                                     ("2", "0")]:
            self.assertIs(is_breaker(COPIES, 0, LAST, value), False)
        for value in wrong_kinds(("0", "0")):
            self.assertIs(is_breaker(COPIES, 0, LAST, value), False)
        self.assertIs(is_breaker(value=("", "0"), wish=ONE, outlet=0, yard=COPIES), True)
        self.assertIs(is_breaker(EATING, 0, ONE, ("", "0")), False)

    def test_returned_values_are_new(self):
        found = kept_paper(TURNS, 0, LAST)
        before = repr(found)
        found[0][0].append(5)
        found[0][1].clear()
        found.pop()
        self.assertEqual(repr(kept_paper(TURNS, 0, LAST)), before)
        lots = passed_lots(TURNS, 0, LAST)
        lots[0].clear()
        self.same([passed_lots(TURNS, 0, LAST), LAST.good()], [[[0, 1]], [[0, 1]]])


class Errors(Cases):
    def test_exits_then_lots(self):
        wrong = no_counts() + [1, 10 ** 29]
        for call in (nodes, passed_lots, is_kept, kept_paper, breaker):
            self.fails_on(errors.InvalidExit, wrong, lambda value: call(COPIES, value, LAST))
        for call in (is_kept_paper, is_breaker):
            self.fails_on(errors.InvalidExit, wrong, lambda value: call(COPIES, value, LAST, None))
        for call in (witness, bars):
            self.fails_on(errors.InvalidExit, wrong, lambda value: call(COPIES, value, LAST, None))
            self.fails_on(errors.InvalidLot, WRONG_LOTS, lambda value: call(counting(61), 0, LAST, value))
        for call in (is_witness, are_bars):
            self.fails_on(errors.InvalidExit, wrong, lambda value: call(COPIES, value, LAST, None, None))
            self.fails_on(errors.InvalidLot, WRONG_LOTS, lambda value: call(counting(61), 0, LAST, value, None))
        self.fails(errors.InvalidLot, {"value": [4]}, witness, lot=[4], wish=ROUND, outlet=0, yard=COPIES)
        self.same(witness(COPIES, 0, ROUND, [3])[1] != "", True)

    def test_looking_through(self):
        for call in (nodes, passed_lots, is_kept, kept_paper, breaker):
            fails_looking(self, lambda yard: call(yard, 0, LAST))
        for value in (None, [], ("", "0"), {}):
            for call in (is_kept_paper, is_breaker):
                fails_looking(self, lambda yard: call(yard, 0, LAST, value))
            for call in (is_witness, are_bars):
                fails_looking(self, lambda yard: call(yard, 0, LAST, [0], value))
        for call in (witness, bars):
            fails_looking(self, lambda yard: call(yard, 0, LAST, [0]))

    def test_lots_are_not_changed(self):
        lot = [0, 1]
        for call in (witness, bars):
            call(TURNS, 0, LAST, lot)
        is_witness(TURNS, 0, LAST, lot, ("", "0"))
        are_bars(TURNS, 0, LAST, lot, {})
        self.same(lot, [0, 1])
        self.same(ALL_LOTS[2], [[0], [1], [0, 1]])


if __name__ == "__main__":
    unittest.main()

"""[55], [56]: rings, their means, the pace, scaled heights, and sizes that keep the pace."""

import unittest
from fractions import Fraction
from itertools import product

from flowyard import errors
from flowyard.clock import links, over_at
from flowyard.pace import are_scaled, delay, keeping_sizes, pace, ring_mean, scaled_heights, slowest
from flowyard.rests import rest_behind
from flowyard.room import are_enough
from flowyard.yards import Station, Yard
from helper import HALF, OVERVIEW, PASS, ROW, TWICE, Cases, Dice, odd_values
from slow_pace import Links, some_paced
from some_yards import (COPIES, FAST_SLOW, HELD_BY_TWO, HOLDS, RARE, SLOW, TURNED, TWO, TWO_WAYS, counting, doubling,
                        fourfold, slowly)
from spoiling import few, no_sizes, with_tuples, wrong_kinds

ALL = ((pace, ()), (slowest, ()), (ring_mean, (None,)), (scaled_heights, ()), (are_scaled, (None,)))
FREE = ("free", 0)
# Two ticks and four by turns; the way round takes three for each sign.
BY_TURNS = Yard([Station(1, 1, [("1", [(("0",), 1, 2), (("1",), 1, 1)]), ("1", [(("0",), 0, 4), (("1",), 0, 1)])])], [])
# One place makes the first station wait for the second one, two do not.
WAITING = Yard([slowly(5), Station(1, 1, [("1", [(("0",), 1, 1)] * 2), ("1", [(("0",), 0, 9)] * 2)])], [(0, 0, 1, 0)])


def slow_mean(yard, value, sizes=None):
    """The mean of a ring, by the links behind each beginning of it; None if it is none."""
    begin, lap, slots = value
    if len(slots) != len(lap) + 1 or slots[0] != slots[-1] or not lap:
        return None
    together = 0
    for at, sign in enumerate(lap):
        ticks = [link[2] for link in links(yard, begin + lap[:at], sign, sizes) if link[:2] == (slots[at], slots[at + 1])]
        if not ticks or slots[at] is None:
            return None
        together += ticks[0]
    if rest_behind(yard, begin + lap) != rest_behind(yard, begin):
        return None
    mean = Fraction(together, len(lap))
    return mean.numerator, mean.denominator


def uneven_station(slow):
    """A station that takes nine ticks for each fourth sign."""
    return Station(1, 1, [("1", [(("0",), (k + 1) % 4, 9 if k == slow else 1)] * 2) for k in range(4)])


def least_by_pace(yard):
    """The least ones of all sizes that are enough and have the pace of the yard without sizes."""
    keep = [sizes for sizes in product((1, 2, 3), repeat=len(yard.pipes))
            if are_enough(yard, sizes) and pace(yard, sizes) == pace(yard)]
    return [sizes for sizes in keep
            if not any(sizes[:at] + (sizes[at] - 1,) + sizes[at + 1:] in keep for at in range(len(sizes)))]


class Rings(Cases):
    def test_the_documents_ring(self):
        self.same(ring_mean(SLOW, ("", "10", [FREE] * 3)), (2, 1))
        self.same([ring_mean(SLOW, ("", lap, [FREE] * (len(lap) + 1))) for lap in ("0", "1", "110", "1001", "0000")],
                  [(1, 1), (3, 1), (7, 3), (2, 1), (1, 1)])
        self.same(ring_mean(value=("0110", "1", (FREE, FREE)), yard=SLOW), (3, 1))

    def test_the_lap_leads_back_to_the_rest(self):
        for begin, lap, wanted in [("", "00", (3, 1)), ("", "0", None), ("0", "00", (3, 1)), ("0", "0", None), ("", "01", (3, 2)),
                                   ("1", "01", (5, 2)), ("", "0101", (3, 2)), ("", "000", None)]:
            self.same(ring_mean(BY_TURNS, (begin, lap, [FREE] * (len(lap) + 1))), wanted)

    def test_neighbours_are_linked(self):
        # From the second station on nothing leads to the first one, but for room.
        one, other = ("free", 0), ("free", 1)
        for slots, wanted in [([one, one], (2, 1)), ([other, other], (5, 1)), ([one, other], None), ([other, one], None),
                              ([one, one, one], None), ([one], None), ([], None), ([("sign", 0, 0)] * 2, None),
                              ([("free", 2)] * 2, None), ([None, None], None)]:
            self.same(ring_mean(FAST_SLOW, ("", "0", slots)), wanted)
        place = ("room", 0, 0)
        self.same(ring_mean(FAST_SLOW, ("", "0", [place, place])), None)
        self.same(ring_mean(FAST_SLOW, ("", "0", [place, place]), (1,)), (2, 1))
        self.same(ring_mean(FAST_SLOW, ("", "00", [other, place, other]), (1,)), slow_mean(FAST_SLOW, ("", "00", [other, place, other]), (1,)))
        self.same(ring_mean(FAST_SLOW, ("", "00", [place, ("room", 0, 1), place]), (2,)),
                  slow_mean(FAST_SLOW, ("", "00", [place, ("room", 0, 1), place]), (2,)))

    def test_texts_of_a_thousand_signs(self):
        self.same(ring_mean(SLOW, ("1" * 1000, "01" * 500, [FREE] * 1001)), (2, 1))
        self.same(ring_mean(SLOW, ("1" * 1001, "01", [FREE] * 3)), None)
        self.same(ring_mean(SLOW, ("", "01" * 500 + "0", [FREE] * 1002)), None)
        self.same(ring_mean(SLOW, ("", "", [FREE])), None)

    def test_any_value(self):
        for value in odd_values() + [[], (), "", 0, ("", "0"), ["", "0", [FREE] * 2], ("", "0", [FREE] * 2, 0), ("", "0", None),
                                     ("", "0", FREE), ("", "0", "ff"), ("", "0", [["free", 0]] * 2), ("", "0", [("free", False)] * 2),
                                     ("", "0", [("free", 0, 0)] * 2), ("", "0", [("free",)] * 2), ("", "0", [0, 0]),
                                     ("", "0", [(b"free", 0)] * 2), (None, "0", [FREE] * 2), ("", 0, [FREE] * 2),
                                     ("", "2", [FREE] * 2), ("x", "0", [FREE] * 2), ("", "0", {0: FREE, 1: FREE}),
                                     ("", "0", [{}, {}]), ("", "0", [[], []]), ("", "0", [("free", [0])] * 2)]:
            self.same(ring_mean(SLOW, value), None)
        for value in wrong_kinds(("0", "10", [FREE] * 3)):
            self.same(ring_mean(SLOW, value), None)
        self.same(ring_mean(SLOW, with_tuples(("0", "10", [FREE] * 3))), (2, 1))

    def test_slowest(self):
        for yard, sizes, mean in [(SLOW, None, (3, 1)), (BY_TURNS, None, (3, 1)), (TWO, None, (2, 1)), (TWO, (2,), (2, 1)),
                                  (RARE, None, (9, 4)), (RARE, (1,), (9, 4)), (TURNED, None, (4, 1)), (WAITING, None, (5, 1)),
                                  (WAITING, (1,), (7, 1)), (WAITING, (2,), (5, 1)), (HELD_BY_TWO, (1, 2, 2), None),
                                  (HOLDS, None, (1, 1)), (counting(30), None, (1, 1))]:
            ring = slowest(yard, sizes)
            self.assertIsInstance(ring, tuple)
            self.assertIsInstance(ring[2], list)
            self.assertLessEqual(max(len(ring[0]), len(ring[1])), 1000)
            self.same(ring_mean(yard, ring, sizes), pace(yard, sizes))
            if mean is not None:
                self.same(pace(yard, sizes), mean)
            for at in range(len(ring[2])):
                self.same(ring_mean(yard, (*ring[:2], ring[2][:at] + ring[2][at + 1:]), sizes), None)
                self.same(ring_mean(yard, (*ring[:2], ring[2] + [ring[2][at]]), sizes), None)

    def test_many_yards(self):
        dice = Dice(552)
        counts = [0, 0]
        for _ in range(30):
            yard, sizes = some_paced(dice)
            slow = Links(yard, sizes)
            self.same(pace(yard, sizes), slow.pace())
            ring = slowest(yard, sizes)
            self.same(slow_mean(yard, ring, sizes), slow.pace())
            for _ in range(10):
                lap = dice.text(2) + dice.one_of("01")
                slots = [dice.one_of(slow.nodes)[1] for _ in lap]
                if dice.below(2):
                    slots = slots[:1] * len(lap)
                value = (dice.text(2), lap, slots + slots[:1])
                wanted = slow_mean(yard, value, sizes)
                counts[wanted is not None] += 1
                self.same(ring_mean(yard, value, sizes), wanted)
            for value in few(wrong_kinds(ring), 15):
                self.same(ring_mean(yard, value, sizes), None)
        self.assertGreater(min(counts), 30)


class Pace(Cases):
    def test_the_documents_yards(self):
        self.same([pace(SLOW), pace(TWO), keeping_sizes(TWO)], [(3, 1), (2, 1), [(2,)]])

    def test_as_fractions_in_lowest_terms(self):
        thirds = Yard([Station(1, 1, [("1", [(("",), (k + 1) % 3, ticks)] * 2) for k, ticks in enumerate((1, 2, 5))])], [])
        self.same([pace(thirds), pace(RARE), pace(COPIES)], [(8, 3), (9, 4), (1, 1)])
        evens = Yard([Station(1, 1, [("1", [(("",), (k + 1) % 4, ticks)] * 2) for k, ticks in enumerate((1, 2, 1, 2))])], [])
        self.same(pace(yard=evens), (3, 2))

    def test_it_is_what_long_streams_come_to(self):
        for yard, lap, sizes in [(SLOW, "1", None), (RARE, "0", None), (TURNED, "0", None), (WAITING, "0", None), (WAITING, "0", (1,))]:
            ticks, signs = pace(yard, sizes)
            begin = "1" if yard is TURNED else ""
            many = over_at(yard, begin + lap * 8 * signs * 5, 0, sizes) - over_at(yard, begin + lap * 8 * signs * 4, 0, sizes)
            self.same(many, ticks * 8)

    def test_the_delay_rises_exactly_if_signs_come_closer(self):
        dice = Dice(553)
        for _ in range(20):
            yard, sizes = some_paced(dice)
            ticks, signs = pace(yard, sizes)
            for apart in {0, ticks // signs, max(0, ticks // signs - 1), -(-ticks // signs)}:
                self.same(delay(yard, apart, sizes) is None, apart * signs < ticks)


class Scaled(Cases):
    def test_for_just_all_slots_of_all_rests(self):
        for yard, sizes in [(SLOW, None), (BY_TURNS, None), (RARE, (1,)), (HELD_BY_TWO, (1, 2, 2)), (WAITING, (1,))]:
            found = scaled_heights(yard, sizes)
            slow = Links(yard, sizes)
            self.same(list(found), sorted(slow.nodes))
            self.assertIs(are_scaled(yard, found, sizes), True)
            self.assertIs(slow.are_scaled(found, pace(yard, sizes)), True)
            moved = {node: height - 10 ** 20 for node, height in list(found.items())[::-1]}
            self.assertIs(are_scaled(yard, moved, sizes), True)
            for node in found:
                less = {other: height for other, height in found.items() if other != node}
                self.assertIs(are_scaled(yard, less, sizes), False)
                self.assertIs(are_scaled(yard, {**less, (9, ("free", 0)): 0}, sizes), False)
                self.assertIs(are_scaled(yard, {**found, (0, ("free", 9)): 0}, sizes), False)

    def test_links_from_none_are_let(self):
        self.assertIs(are_scaled(SLOW, {(0, FREE): -10 ** 20}), True)
        self.assertIs(are_scaled(value={(0, FREE): 10 ** 20}, yard=SLOW), True)

    def test_by_the_pace_as_a_fraction(self):
        # Of 2 and 4 ticks by turns each is one off the pace 3.
        for late, wanted in [(-2, False), (-1, True), (0, False), (1, False)]:
            self.assertIs(are_scaled(BY_TURNS, {(0, FREE): 0, (1, FREE): late}), wanted)
        halves = Yard([Station(1, 1, [("1", [(("",), 1, 2)] * 2), ("1", [(("",), 0, 5)] * 2)])], [])
        for late, wanted in [(-3, True), (-4, False), (-2, False)]:
            self.assertIs(are_scaled(halves, {(0, FREE): 0, (1, FREE): late}), wanted)

    def test_any_value(self):
        for value in odd_values() + [[], (), {}, 0, [((0, FREE), 0)], {FREE: 0}, {(False, FREE): 0}, {(0, ("free", False)): 0},
                                     {(0, FREE): False}, {(0, FREE): None}, {(0, FREE): "0"}, {(0, FREE): 0, None: 0}]:
            self.assertIs(are_scaled(SLOW, value), False)
        for value in wrong_kinds(scaled_heights(BY_TURNS)) + wrong_kinds(scaled_heights(RARE, (1,))):
            self.assertIs(are_scaled(BY_TURNS, value), False)
            self.assertIs(are_scaled(RARE, value, (1,)), False)

    def test_many_yards(self):
        dice = Dice(554)
        counts = [0, 0]
        for _ in range(24):
            yard, sizes = some_paced(dice)
            slow = Links(yard, sizes)
            found = scaled_heights(yard, sizes)
            self.assertIs(slow.are_scaled(found, slow.pace()), True)
            for _ in range(12):
                value = {node: height + dice.below(2) * dice.below(3) for node, height in found.items()}
                wanted = slow.are_scaled(value, slow.pace())
                counts[wanted] += 1
                self.assertIs(are_scaled(yard, value, sizes), wanted)
        self.assertGreater(min(counts), 20)

    def test_returned_dicts_are_new(self):
        scaled_heights(SLOW).clear()
        slowest(SLOW)[2].clear()
        self.same(len(scaled_heights(SLOW)), 1)
        self.same(ring_mean(SLOW, slowest(SLOW)), (3, 1))


class KeepingSizes(Cases):
    def test_without_pipes(self):
        self.same([keeping_sizes(COPIES), keeping_sizes(yard=HOLDS)], [[()], [()]])

    def test_more_than_enough(self):
        self.same(keeping_sizes(WAITING), [(2,)])
        self.same(keeping_sizes(FAST_SLOW), [(1,)])
        self.same(keeping_sizes(ROW), [(1,)])

    def test_several_and_none(self):
        self.same(keeping_sizes(HELD_BY_TWO), least_by_pace(HELD_BY_TWO))
        self.same(keeping_sizes(Yard([HALF, TWICE, PASS], [(0, 0, 1, 0), (1, 0, 2, 0)])), [(1, 2)])
        burst = Yard([slowly(1, "00"), Station(1, 1, [("1", [(("0",), 1, 1)] * 2), ("1", [(("0",), 2, 1)] * 2),
                                                      ("1", [(("0",), 3, 1)] * 2), ("1", [(("0",), 0, 9)] * 2)])], [(0, 0, 1, 0)])
        self.same([pace(burst), [pace(burst, (size,)) for size in (2, 3)], keeping_sizes(burst)],
                  [(6, 1), [(6, 1), (6, 1)], [(2,)]])
        # Slow at other signs, the second one needs some ahead of it not to wait; where they wait is all the same.
        slow_last, slow_first = uneven_station(3), uneven_station(0)
        two = Yard([slow_last, slow_first], [(0, 0, 1, 0)])
        self.same([[pace(two, sizes) for sizes in (None, (1,), (2,), (3,))], keeping_sizes(two)],
                  [[(3, 1), (5, 1), (19, 4), (3, 1)], [(3,)]])
        three = Yard([slow_last, PASS, slow_first], [(0, 0, 1, 0), (1, 0, 2, 0)])
        self.same(keeping_sizes(three), [(1, 2), (2, 1)])
        rows = [[("", 1, 9), ("00", 2, 9), ("00", 0, 5)], [("0", 1, 5), ("0", 2, 1), ("0", 0, 9)]]
        none = Yard([Station(1, 1, [("1", [((text,), goal, ticks)] * 2) for text, goal, ticks in row]) for row in rows],
                    [(0, 0, 1, 0)])
        self.same([[pace(none, sizes) for sizes in (None, (2,), (3,))], keeping_sizes(none)],
                  [[(23, 3), (28, 3), (70, 9)], []])

    def test_many_yards(self):
        dice = Dice(561)
        for _ in range(14):
            yard, _ = some_paced(dice)
            self.same(keeping_sizes(yard), least_by_pace(yard))

    def test_three_pipes_and_four_ahead_of_all(self):
        three = Yard([PASS] * 4, [(k, 0, k + 1, 0) for k in range(3)])
        four = Yard([PASS] * 5, [(k, 0, k + 1, 0) for k in range(4)])
        self.same(keeping_sizes(three), [(1, 1, 1)])
        self.fails(errors.TooMany, {"what": "pipes", "limit": 3}, keeping_sizes, four)
        self.fails(errors.TooMany, {"what": "pipes", "limit": 3}, keeping_sizes, TWO_WAYS)
        self.fails(errors.TooMany, {"what": "pipes", "limit": 3}, keeping_sizes, doubling(5))
        self.fails(errors.NotHeld, {"stream": "0" * 7}, keeping_sizes, OVERVIEW)
        self.fails(errors.TooMany, {"what": "rests", "limit": 60}, keeping_sizes, counting(61))
        self.fails(errors.TooMany, {"what": "slots", "limit": 120}, keeping_sizes, counting(31))

    def test_sizes_that_are_tried_raise_nothing(self):
        # With sizes there are more than 120 slots.
        self.same(keeping_sizes(counting(30)), [(1, 1, 1)])
        gate = Station(1, 1, [("1", [(("0",), 0, 1), (("00",), 0, 1)])])
        yard = counting(30)
        self.same(keeping_sizes(Yard([gate, *yard.stations[1:]], yard.pipes, yard.begin)), [(2, 1, 1)])

    def test_returned_lists_are_new(self):
        keeping_sizes(TWO).clear()
        self.same(keeping_sizes(TWO), [(2,)])


class Errors(Cases):
    def test_sizes(self):
        given = [value for value in no_sizes(ROW) if value is not None]
        for call, more in ALL:
            self.fails_on(errors.InvalidSizes, given, lambda value: call(ROW, *more, value))
            self.fails_on(errors.InvalidSizes, given[:4], lambda value: call(OVERVIEW, *more, sizes=value))
            call(COPIES, *more, sizes=())

    def test_looking_through_whatever_the_value_is(self):
        values = [None, {}, ("", "0", [FREE] * 2), {(0, FREE): 0}]
        for call, more in ALL:
            for value in values if more else [None]:
                given = (value,) if more else ()
                self.fails(errors.NotHeld, {"stream": "0" * 7}, call, OVERVIEW, *given)
                self.fails(errors.TooMany, {"what": "rests", "limit": 60}, call, counting(61), *given, (1, 1, 1))
                self.fails(errors.TooMany, {"what": "signs", "limit": 16}, call, doubling(5), *given, (1,) * 5)
                self.fails(errors.NotEnough, {"stream": "00"}, call, HELD_BY_TWO, *given, (1, 1, 3))
                self.fails(errors.TooMany, {"what": "slots", "limit": 120}, call, counting(31), *given)
                self.fails(errors.TooMany, {"what": "slots", "limit": 120}, call, counting(18), *given, (1, 1, 1))
                call(counting(30), *given)

    def test_no_beats_are_too_many(self):
        self.same(pace(fourfold(5)), (4 ** 5, 1))


if __name__ == "__main__":
    unittest.main()

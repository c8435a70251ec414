"""[53], [55]: delays, heights that bound them, and streams whose last sign is as late as any."""

import unittest
from fractions import Fraction

from flowyard import errors
from flowyard.clock import lateness
from flowyard.pace import are_heights, delay, heights, is_later, late_stream, pace
from flowyard.yards import Station, Yard
from helper import OVERVIEW, PASS, ROW, TWICE, Cases, Dice, no_counts, no_texts, odd_values
from slow_pace import Links, slow_delay, slow_delays, some_paced
from slow_rests import all_texts
from some_yards import COPIES, FAST_SLOW, HELD_BY_TWO, RARE, SLOW, TURNED, TWO, counting, doubling, slowly
from spoiling import few, no_sizes, wrong_kinds

ALL = ((delay, ()), (heights, ()), (late_stream, ()), (are_heights, (5, None)), (is_later, (5, None)))
DOUBLE = Yard([TWICE, slowly(3)], [(0, 0, 1, 0)])


def some_aparts(dice, mean):
    """Distances about the pace."""
    return sorted({0, max(0, mean[0] // mean[1] - 1), mean[0] // mean[1], mean[0] // mean[1] + 1, dice.below(30)})


class Delays(Cases):
    def test_the_documents_yards(self):
        self.same([delay(SLOW, 3), delay(SLOW, 2), late_stream(SLOW, 3)], [3, None, "1"])
        self.same(delay(TWO, 2), 3)

    def test_closer_than_the_pace_it_rises(self):
        for yard, mean in [(SLOW, 3), (COPIES, 1), (FAST_SLOW, 5), (TURNED, 4), (TWO, 2)]:
            self.same(pace(yard), (mean, 1))
            for apart in range(mean):
                self.same([delay(yard, apart), heights(yard, apart), late_stream(yard, apart)], [None] * 3)
            for apart in (mean, mean + 1, 30, 10 ** 29):
                self.assertIsNotNone(delay(yard, apart))
                self.same(slow_delay(yard, late_stream(yard, apart), min(apart, 99), None), delay(yard, apart))

    def test_further_apart_it_is_less(self):
        self.same(pace(RARE), (9, 4))
        self.same([delay(RARE, apart) for apart in (2, 3, 5, 9)], [None, 10, 10, 10])
        self.same([late_stream(RARE, apart) for apart in (3, 9)], ["0000", "0000"])
        slow_pair = Yard([Station(1, 1, [("1", [(("0",), 1, 1), (("1",), 0, 1)]), ("1", [(("0",), 0, 9), (("1",), 0, 1)])])], [])
        self.same([delay(slow_pair, apart) for apart in (4, 5, 6, 8, 9, 12)], [None, 9, 9, 9, 9, 9])
        triple = Yard([Station(1, 1, [("1", [(("0",), 1, 9), (("1",), 2, 1)]), ("1", [(("0",), 2, 9), (("1",), 2, 1)]),
                                      ("1", [(("",), 0, 1)] * 2)])], [])
        self.same([delay(triple, apart) for apart in (6, 7, 8, 9, 12)], [None, 11, 10, 9, 9])
        self.same([late_stream(triple, apart) for apart in (7, 8, 9)], ["00", "00", "0"])

    def test_what_was_in_the_pipes(self):
        begun = Yard([PASS, slowly(9)], [(0, 0, 1, 0)], ((0, 0), ("010",)))
        self.same([delay(begun, 9), late_stream(begun, 9)], [36, "0"])
        self.same([delay(begun, 10), late_stream(begun, 10)], [36, "0"])
        # The beat of the first sign ends as late as those of what was there.
        aside = Yard([Station(1, 2, [("1", [(("", ""), 0, 9)] * 2)]), slowly(9), PASS], [(0, 0, 1, 0), (0, 1, 2, 0)],
                     ((0, 0, 0), ("0", "")))
        self.same([delay(aside, 9), late_stream(aside, 9), late_stream(aside, 20)], [9, "0", "0"])
        aside = aside.begun(((0, 0, 0), ("010", "")))
        self.same([delay(aside, 9), late_stream(aside, 9)], [27, "0"])
        self.assertIs(is_later(aside, 9, 26, "1"), True)
        self.assertIs(is_later(aside, 9, 27, "1" * 9), False)
        self.assertIs(is_later(aside, 9, 26, ""), False)

    def test_all_beats_up_to_a_sign_count(self):
        # The second sign is done at once, but a beat of the first one ends later.
        yard = Yard([Station(1, 1, [("1", [(("0",), 1, 1)] * 2), ("1", [(("",), 1, 1)] * 2)]), slowly(9)], [(0, 0, 1, 0)])
        self.same([delay(yard, 1), late_stream(yard, 1)], [10, "0"])
        for stream, bound, wanted in [("0", 9, True), ("0", 10, False), ("00", 9, True), ("00", 10, False)]:
            self.assertIs(is_later(yard, 1, bound, stream), wanted)
        self.same([slow_delay(yard, "0" * many, 1, None) for many in (1, 2, 3)], [10, 9, 8])

    def test_with_sizes(self):
        self.same([delay(DOUBLE, 6), delay(DOUBLE, 6, (2,)), delay(DOUBLE, 6, (3,))], [7, 7, 7])
        self.same([delay(DOUBLE, 5), delay(DOUBLE, 5, (2,)), delay(sizes=(3,), apart=5, yard=DOUBLE)], [None, None, None])
        far = Yard([Station(1, 1, [("1", [(("0",), 0, 5)] * 2)]), Station(1, 1, [("1", [(("0",), 1, 1)] * 2),
                                                                               ("1", [(("0",), 0, 9)] * 2)])], [(0, 0, 1, 0)])
        # With one place the first station waits for the slow one, which waits for it then.
        self.same([pace(far), pace(far, (1,))], [(5, 1), (7, 1)])
        self.same([delay(far, 5), delay(far, 5, (2,)), delay(far, 5, (1,)), delay(far, 6, (1,)), delay(far, 7, (1,))],
                  [14, 14, None, None, 14])

    def test_many_yards_by_the_times_of_all_short_streams(self):
        dice = Dice(531)
        counts = {"rises": 0, "told": 0, "longer": 0}
        for _ in range(30):
            yard, sizes = some_paced(dice)
            mean = pace(yard, sizes)
            for apart in some_aparts(dice, mean):
                found = delay(yard, apart, sizes)
                self.same(found is None, apart < Fraction(*mean))
                if found is None:
                    counts["rises"] += 1
                    self.same([heights(yard, apart, sizes), late_stream(yard, apart, sizes)], [None, None])
                    continue
                slow = slow_delays(yard, 4, apart, sizes)
                self.assertLessEqual(max(slow.values()), found)
                first = [stream for stream in slow if slow[stream] == found]
                stream = late_stream(yard, apart, sizes)
                self.same(slow_delay(yard, stream, apart, sizes), found)
                if first:
                    self.same(stream, first[0])
                counts["longer"] += len(stream) > 1
                self.assertGreater(len(stream), 4 if not first else 0)
                counts["told"] += 1
        self.assertGreater(min(counts.values()), 5)

    def test_the_least_of_as_many_signs(self):
        late = Yard([Station(1, 1, [("1", [(("",), 1, 1), (("",), 2, 1)]), ("1", [(("",), 0, 1), (("",), 0, 5)]),
                                    ("1", [(("",), 0, 5), (("",), 0, 5)])])], [])
        self.same([late_stream(late, 9), late_stream(late.begun(((2,), ())), 9)], ["01", "0"])
        self.same(late_stream(Yard([Station(1, 1, [("1", [(("",), 0, 4), (("",), 0, 4)])])], []), 4), "0")

    def test_where_the_slow_sign_begins_late(self):
        # Three fast signs lead to a slow one; at which moment it comes says nothing of those ahead.
        rows = [("1", [(("",), (k + 1) % 4, 9 if k == 3 else 1), (("",), 0, 1)]) for k in range(4)]
        far = Yard([Station(1, 1, rows)], [])
        self.same([late_stream(far, apart) for apart in (9, 10, 50)], ["0000"] * 3)
        self.same([late_stream(far.begun(((2,), ())), apart) for apart in (9, 50)], ["00"] * 2)
        # Even and uneven numbers of signs: the slow rest is come to by an odd one alone.
        rows = [("1", [(("",), 1, 1)] * 2), ("1", [(("",), 2, 2), (("",), 0, 2)]), ("1", [(("",), 3, 1)] * 2),
                ("1", [(("",), 0, 5)] * 2)]
        self.same([late_stream(Yard([Station(1, 1, rows)], []), apart) for apart in (5, 9)], ["0000"] * 2)


class Heights(Cases):
    def test_those_of_the_document(self):
        self.same(heights(SLOW, 3), {(0, ("free", 0)): 0})
        for height, bound, wanted in [(0, 3, True), (0, 2, False), (1, 4, True), (1, 3, False), (-1, 3, False), (9, 12, True)]:
            self.assertIs(are_heights(SLOW, 3, bound, {(0, ("free", 0)): height}), wanted)
        self.assertIs(are_heights(SLOW, 2, 10 ** 29, {(0, ("free", 0)): 10 ** 20}), False)

    def test_for_just_all_slots_of_all_rests(self):
        found = heights(HELD_BY_TWO, 5, (1, 2, 2))
        self.same(list(found), sorted(found))
        self.same({node[0] for node in found}, {0, 1, 2})
        for number, stream in enumerate(("", "0", "1")):
            self.same([slot for rest, slot in found if rest == number], list(lateness(HELD_BY_TWO, stream, 5, (1, 2, 2))))
        bound = delay(HELD_BY_TWO, 5, (1, 2, 2))
        self.assertIs(are_heights(HELD_BY_TWO, 5, bound, found, (1, 2, 2)), True)
        for node in found:
            less = {other: height for other, height in found.items() if other != node}
            self.assertIs(are_heights(HELD_BY_TWO, 5, bound + 99, less, (1, 2, 2)), False)
            self.assertIs(are_heights(HELD_BY_TWO, 5, bound + 99, {**found, node: -99}, (1, 2, 2)), False)
        for more in [(3, ("free", 0)), (0, ("free", 3)), (0, ("room", 0, 1)), (0, ("sign", 0, 0)), (0, None), None, 0, (0,)]:
            self.assertIs(are_heights(HELD_BY_TWO, 5, bound + 99, {**found, more: 0}, (1, 2, 2)), False)
            self.assertIs(are_heights(HELD_BY_TWO, 5, bound + 99, {**less, more: 0}, (1, 2, 2)), False)

    def test_at_the_first_rest_none_below_the_lateness(self):
        begun = FAST_SLOW.begun(((0, 0), ("01",)))
        first = heights(begun, 9)
        self.same(first[(0, ("free", 1))], 10)
        self.assertIs(are_heights(begun, 9, delay(begun, 9), first), True)
        self.assertIs(are_heights(begun, 9, 99, {**first, (0, ("free", 1)): 9}), False)
        self.assertIs(are_heights(begun, 9, 99, {**first, (0, ("free", 1)): 11}), True)
        self.assertIs(are_heights(begun, 9, 99, {**first, (0, ("free", 0)): -1}), False)

    def test_the_ends_of_what_was_there_are_bounded_too(self):
        # No slot is as late as the pipe's last sign was done, as the station is free again behind a long time.
        begun = Yard([Station(1, 1, [("1", [(("",), 0, 1)] * 2)]), slowly(9)], [(0, 0, 1, 0)], ((0, 0), ("01",)))
        found = heights(begun, 5)
        for bound, wanted in [(18, True), (17, False), (1, False), (10 ** 29, True)]:
            self.assertIs(are_heights(begun, 5, bound, found), wanted)
        self.same(delay(begun, 5), 18)

    def test_any_value(self):
        for value in odd_values() + [[], (), {}, 0, [0], [((0, ("free", 0)), 0)], {0: 0}, {("free", 0): 0},
                                     {(0, ("free",)): 0}, {(0, ("free", 0, 0)): 0},
                                     {(0, ("free", 1)): 0}, {(0, ("sign", 0, 0)): 0}, {(1, ("free", 0)): 0},
                                     {(False, ("free", 0)): 0}, {(0, ("free", False)): 0}, {(0, ("free", 0)): False},
                                     {(0, ("free", 0)): True}, {(0, ("free", 0)): "0"}, {(0, ("free", 0)): None},
                                     {(0, frozenset([0])): 0}, {(0, 0, ("free", 0)): 0}]:
            self.assertIs(are_heights(SLOW, 3, 99, value), False)
        self.assertIs(are_heights(value={(0, ("free", 0)): 5}, bound=99, apart=3, yard=SLOW), True)
        for value in wrong_kinds(heights(HELD_BY_TWO, 5)):
            self.assertIs(are_heights(HELD_BY_TWO, 5, 99, value), False)

    def test_many_yards(self):
        dice = Dice(551)
        counts = [0, 0]
        for _ in range(24):
            yard, sizes = some_paced(dice)
            slow = Links(yard, sizes)
            mean = pace(yard, sizes)
            apart = -(-mean[0] // mean[1]) + dice.below(2)
            found, bound = heights(yard, apart, sizes), delay(yard, apart, sizes)
            self.same(list(found), sorted(slow.nodes))
            self.assertIs(slow.are_heights(found, apart, bound), True)
            self.assertIs(are_heights(yard, apart, bound, found, sizes), True)
            if bound:
                self.assertIs(are_heights(yard, apart, bound - 1, found, sizes), False)
            for _ in range(16):
                value = {**found, dice.one_of(list(found)): dice.below(20) - 10}
                if dice.below(2):
                    value = {node: height + 2 for node, height in found.items()}
                    value[dice.one_of(list(found))] -= dice.below(4)
                limit = bound + dice.below(5) - 1
                wanted = slow.are_heights(value, apart, limit)
                counts[wanted] += 1
                self.assertIs(are_heights(yard, apart, limit, value, sizes), wanted)
            for value in few(wrong_kinds(found), 20):
                self.assertIs(are_heights(yard, apart, bound + 99, value, sizes), False)
        self.assertGreater(min(counts), 30)


class IsLater(Cases):
    def test_one_of_its_signs(self):
        for stream in all_texts(5):
            self.assertIs(is_later(SLOW, 3, 2, stream), "1" in stream)
            self.assertIs(is_later(SLOW, 3, 3, stream), False)
            self.assertIs(is_later(SLOW, 0, 4, stream), sum(1 + 2 * int(sign) for sign in stream) > 4)
        self.assertIs(is_later(value="10", bound=2, apart=99, yard=SLOW), True)

    def test_of_rising_ones(self):
        self.assertIs(is_later(SLOW, 2, 500, "1" * 499), True)
        self.assertIs(is_later(SLOW, 2, 501, "1" * 499), False)
        self.assertIs(is_later(SLOW, 2, 1000, "1" * 1000), True)
        for value in no_texts() + ["1" * 1001]:
            self.assertIs(is_later(SLOW, 2, 0, value), False)

    def test_many_yards(self):
        dice = Dice(532)
        for _ in range(30):
            yard, sizes = some_paced(dice)
            apart = dice.below(9)
            for stream in (dice.text(4), dice.text(6)):
                most = max([-1] + [slow_delay(yard, stream[:many], apart, sizes) for many in range(1, len(stream) + 1)])
                for bound in (0, most - 1, most, most + 1):
                    if bound >= 0:
                        self.assertIs(is_later(yard, apart, bound, stream, sizes), most > bound)


class Errors(Cases):
    def test_apart_bound_and_sizes_in_this_sequence(self):
        for call, more in ALL:
            wrong = [None] * len(more)
            for yard in (ROW, OVERVIEW, counting(61)):
                self.fails_on(errors.InvalidNumber, no_counts(), lambda value: call(yard, value, *wrong, (9,)))
            given = [value for value in no_sizes(ROW) if value is not None]
            self.fails_on(errors.InvalidSizes, given, lambda value: call(ROW, 1, *more, value))
            self.fails_on(errors.InvalidSizes, given[:3], lambda value: call(OVERVIEW, 1, *more, sizes=value))
            call(COPIES, 1, *more, sizes=())
        for call in (are_heights, is_later):
            self.fails_on(errors.InvalidNumber, no_counts(), lambda value: call(OVERVIEW, 1, value, None, (9,)))
            self.fails(errors.InvalidNumber, {"value": -1}, call, value="", bound=-1, apart=0, yard=ROW)

    def test_looking_through_as_in_stage_3(self):
        for call, more in ALL:
            self.fails(errors.NotHeld, {"stream": "0" * 7}, call, OVERVIEW, 1, *more)
            self.fails(errors.NotHeld, {"stream": "0" * 7}, call, OVERVIEW, 1, *more, (1, 1, 1))
            self.fails(errors.TooMany, {"what": "rests", "limit": 60}, call, counting(61), 1, *more)
            self.fails(errors.TooMany, {"what": "rests", "limit": 60}, call, counting(61), 1, *more, (1, 1, 1))
            self.fails(errors.TooMany, {"what": "signs", "limit": 16}, call, doubling(5), 1, *more, (1,) * 5)

    def test_not_enough_ahead_of_many_slots(self):
        gate = Station(1, 1, [("1", [(("0",), 0, 1), (("00",), 0, 1)])])
        yard = counting(60)
        slow = Yard([gate, *yard.stations[1:]], yard.pipes, yard.begin)
        for call, more in ALL:
            self.fails(errors.NotEnough, {"stream": "00"}, call, HELD_BY_TWO, 1, *more, (1, 1, 3))
            self.fails(errors.NotEnough, {"stream": "1"}, call, slow, 1, *more, (1, 1, 1))
            self.fails(errors.TooMany, {"what": "slots", "limit": 120}, call, slow, 1, *more, (2, 1, 1))
            self.fails(errors.TooMany, {"what": "slots", "limit": 120}, call, slow, 1, *more)

    def test_a_hundred_and_twenty_slots_and_more(self):
        for call, more in ALL:
            call(counting(30), 1, *more)
            self.fails(errors.TooMany, {"what": "slots", "limit": 120}, call, counting(31), 1, *more)
            call(counting(17), 1, *more, (1, 1, 1))
            self.fails(errors.TooMany, {"what": "slots", "limit": 120}, call, counting(17), 1, *more, (2, 1, 1))
        self.same(len(heights(counting(30), 1)), 120)

    def test_waiting_signs_are_slots_too(self):
        # Of 3 stations and 30 rests: 90 slots, and those of the signs that wait.
        self.same(len(heights(HELD_BY_TWO, 5)), 3 * 3 + 2)
        self.same(len(heights(HELD_BY_TWO, 5, (1, 2, 2))), 3 * 3 + 3 * 5)


if __name__ == "__main__":
    unittest.main()

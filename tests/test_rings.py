"""[45]: for what beats wait, reasons why sizes are not enough for a stream, and the least sizes for one."""

import unittest
from itertools import product

from flowyard import errors
from flowyard.needs import needs
from flowyard.rings import is_reason, least_for, reason, stays_for, waits_for
from flowyard.room import are_enough_for
from flowyard.runs import full_run
from flowyard.yards import Station, Yard
from helper import (COPY, HALF, OVERVIEW, PASS, ROW, TWICE, UNLIKE, Cases, Dice, no_texts, odd_values,
                    some_sizes, some_yard)
from slow_sizes import slow_enough_for, slow_waits
from some_yards import BOTH, COPIES, HELD_BY_TWO, HOLDS, TWO_WAYS, UNEVEN, counting
from spoiling import few, no_sizes, with_tuples, wrong_kinds

DOUBLE = Yard([TWICE, PASS], [(0, 0, 1, 0)])
TURNS = Yard([UNEVEN, BOTH], [(0, 0, 1, 0), (0, 1, 1, 1)])
FILLING = Yard([COPY, Station(2, 1, [("1", [(("0",), 0, 1)] * 2)])], [(0, 0, 1, 0), (0, 1, 1, 1)])


def some_small(dice):
    """A yard, sizes and a stream of at most thirty beats."""
    while True:
        yard = some_yard(dice, 4)
        stream = dice.text(4)
        if len(full_run(yard, stream)) <= 30:
            return yard, some_sizes(dice, yard), stream


def is_ring(waits, value):
    return len(set(value)) == len(value) > 1 and all(later in waits[beat] for beat, later in zip(value, value[1:] + value[:1]))


class Waiting(Cases):
    def test_the_documents_yard(self):
        self.same([waits_for(HELD_BY_TWO, (1, 1, 3), "00", (0, 1)), stays_for(HELD_BY_TWO, (1, 1, 3), "00", (0, 1))],
                  [[(0, 0), (1, 0), (2, 0)], []])

    def test_each_once(self):
        yard = Yard([COPY, UNLIKE], [(0, 0, 1, 0), (0, 1, 1, 1)])
        self.same(waits_for(yard, (1, 1), "00", (0, 1)), [(0, 0), (1, 0)])
        self.same(waits_for(yard, (1, 2), "00", (0, 1)), [(0, 0), (1, 0)])
        self.same(waits_for(yard, (2, 2), "00", (0, 1)), [(0, 0)])

    def test_what_it_needs_and_what_makes_room(self):
        for size in (1, 2, 3):
            for k in range(6):
                wanted = [(0, k - 1)] * (k > 0) + [(1, k - size)] * (k >= size)
                self.same(waits_for(ROW, (size,), "0" * 6, (0, k)), wanted)
                self.same(waits_for(ROW, (size,), "0" * 6, (1, k)), needs(ROW, "0" * 6, (1, k)))

    def test_two_signs_at_once(self):
        # The second of both needs the first one's place: it waits for what comes behind itself.
        self.same([waits_for(DOUBLE, (size,), "00", (0, 0)) for size in (1, 2, 3)], [[(1, 0)], [], []])
        self.same([waits_for(DOUBLE, (size,), "00", (0, 1)) for size in (1, 2, 3)],
                  [[(0, 0), (1, 2)], [(0, 0), (1, 1)], [(0, 0), (1, 0)]])

    def test_what_was_there_is_counted(self):
        yard = ROW.begun(((0, 0), ("01",)))
        self.same([waits_for(yard, (size,), "0", (0, 0)) for size in (1, 2, 3)], [[(1, 1)], [(1, 0)], []])
        self.same(stays_for(yard, (1,), "0", (0, 0)), [])

    def test_for_ever(self):
        self.same([stays_for(FILLING, (3, size), "0000", (0, k)) for size in (1, 2, 3) for k in range(4)],
                  [[], [1], [1], [1], [], [], [1], [1], [], [], [], [1]])
        self.same(waits_for(FILLING, (3, 1), "00", (0, 1)), [(0, 0)])
        both = Yard([COPY, PASS, Station(2, 1, [("12", [(("0",), 0, 1)] * 4)])], [(0, 0, 1, 0), (0, 1, 2, 0), (1, 0, 2, 1)])
        self.same(stays_for(beat=(0, 1), stream="00", sizes=(1, 1, 1), yard=both), [])
        halted = Yard([COPY, HALF, HALF, UNLIKE], [(0, 0, 1, 0), (0, 1, 3, 0), (1, 0, 2, 0), (2, 0, 3, 1)])
        self.same([stays_for(halted, (1, 1, 1, 1), "00", (0, k)) for k in (0, 1)], [[], [1]])

    def test_at_several_pipes(self):
        never = Station(2, 1, [("1", [(("0",), 0, 1)] * 2)])
        copies = Yard([COPY, COPY, never, never], [(0, 0, 2, 0), (0, 1, 1, 0), (1, 0, 2, 1), (1, 1, 3, 1), (2, 0, 3, 0)])
        self.same([stays_for(copies, (3, 3, 1, 1, 3), "00", (1, k)) for k in (0, 1)], [[], [2, 3]])

    def test_many_yards_by_counting_signs(self):
        dice = Dice(451)
        for _ in range(120):
            yard, sizes, stream = some_small(dice)
            waits, stays = slow_waits(yard, stream, sizes)
            for beat in waits:
                self.same(waits_for(yard, sizes, stream, beat), waits[beat])
                self.same(stays_for(yard, sizes, stream, beat), stays[beat])


class Reasons(Cases):
    def test_the_documents_yard(self):
        self.assertIs(is_reason(HELD_BY_TWO, (1, 1, 3), "00", ("ring", [(2, 0), (1, 1), (0, 1)])), True)
        self.same(sorted(reason(HELD_BY_TWO, (1, 1, 3), "00")[1]), [(0, 1), (1, 1), (2, 0)])
        self.same(reason(HELD_BY_TWO, (1, 2, 2), "00"), None)

    def test_rings_of_two(self):
        self.same(sorted(reason(DOUBLE, (1,), "0")[1]), [(0, 0), (1, 0)])
        for value in (("ring", [(0, 0), (1, 0)]), ("ring", [(1, 0), (0, 0)]), ("ring", ((1, 0), (0, 0)))):
            self.assertIs(is_reason(DOUBLE, (1,), "0", value), True)
            self.assertIs(is_reason(DOUBLE, (2,), "0", value), False)
            self.assertIs(is_reason(value=value, stream="", sizes=(1,), yard=DOUBLE), False)

    def test_signs_that_stay(self):
        self.same(reason(FILLING, (1, 1), "00"), ("stays", (0, 1), 1))
        for value, wanted in [(("stays", (0, 1), 1), True), (("stays", (0, 0), 1), False), (("stays", (0, 1), 0), False),
                              (("stays", (0, 1), 2), False), (("stays", (0, 1), -1), False), (("stays", (0, 2), 1), False),
                              (("stays", (1, 1), 1), False), (("stays", [0, 1], 1), False), (("stays", (0, 1), True), False),
                              (["stays", (0, 1), 1], False), (("stays", (0, 1)), False), (("stays", (0, 1), 1, 1), False),
                              (("ring", (0, 1), 1), False), (("stays", (False, 1), 1), False)]:
            self.assertIs(is_reason(FILLING, (1, 1), "00", value), wanted)
        self.same(reason(FILLING, (1, 3), "000"), None)
        self.same(reason(TURNS, (2, 2), "000"), ("stays", (0, 2), 0))

    def test_none_exactly_if_they_are_enough(self):
        for yard, sizes, stream in [(ROW, (1,), "0101"), (HELD_BY_TWO, (1, 2, 2), "00110"), (TURNS, (1, 1), "0101"),
                                    (COPIES, (), "0" * 60), (DOUBLE, (2,), "0" * 20), (DOUBLE, (1,), "")]:
            self.same([are_enough_for(yard, sizes, stream), reason(yard, sizes, stream)], [True, None])
        for yard, sizes, stream in [(DOUBLE, (1,), "1"), (TURNS, (1, 1), "00"), (TURNS, (1, 1), "0011"), (OVERVIEW, (1, 1, 1), "00")]:
            self.same(are_enough_for(yard, sizes, stream), False)
            self.assertIs(is_reason(yard, sizes, stream, reason(yard, sizes, stream)), True)

    def test_rings_may_begin_anywhere(self):
        beats = [(2, 0), (1, 1), (0, 1)]
        for at in range(3):
            self.assertIs(is_reason(HELD_BY_TWO, (1, 1, 3), "00", ("ring", beats[at:] + beats[:at])), True)
            turned = beats[::-1]
            self.assertIs(is_reason(HELD_BY_TWO, (1, 1, 3), "00", ("ring", turned[at:] + turned[:at])), False)

    def test_less_more_and_twice(self):
        beats = [(2, 0), (1, 1), (0, 1)]
        others = [beats[:at] + beats[at + 1:] for at in range(3)] + [beats + [beat] for beat in beats] + [beats * 2]
        others += [beats + [(0, 0)], [(0, 0)] + beats, [], beats[:1], [(2, 0), (1, 1), (0, 1), (1, 0)], [(2, 0), (1, 1), (0, 5)]]
        for value in others:
            self.assertIs(is_reason(HELD_BY_TWO, (1, 1, 3), "00", ("ring", value)), False)

    def test_a_beat_does_not_wait_for_itself(self):
        for beat in [(0, 0), (0, 1), (1, 0), (2, 0)]:
            self.assertIs(is_reason(HELD_BY_TWO, (1, 1, 3), "00", ("ring", [beat])), False)
            self.assertIs(is_reason(HELD_BY_TWO, (1, 1, 3), "00", ("ring", [beat, beat])), False)

    def test_any_value(self):
        ring = ("ring", [(2, 0), (1, 1), (0, 1)])
        for value in odd_values() + [[], (), "", "ring", 0, ("ring",), ("ring", None), ("ring", "01"), ("ring", [], []),
                                     ("ring", {(2, 0): 1, (1, 1): 2}), (None, ring[1]), ("Ring", ring[1]), ring + (0,),
                                     (["ring"], ring[1]), (b"ring", ring[1]), list(ring), ("ring", [None, None]),
                                     ("stays", None, 0), ("stays", (0, 0), None), ("stays", ((0, 0),), 0)]:
            self.assertIs(is_reason(HELD_BY_TWO, (1, 1, 3), "00", value), False)
        self.assertIs(is_reason(HELD_BY_TWO, (1, 1, 3), "00", with_tuples(ring)), True)
        for value in wrong_kinds(ring):
            self.assertIs(is_reason(HELD_BY_TWO, (1, 1, 3), "00", value), False)
        for value in wrong_kinds(("stays", (0, 1), 1)):
            self.assertIs(is_reason(FILLING, (1, 1), "00", value), False)

    def test_many_yards(self):
        dice = Dice(452)
        counts = {"ring": 0, "stays": 0, None: 0}
        for _ in range(160):
            yard, sizes, stream = some_small(dice)
            waits, stays = slow_waits(yard, stream, sizes)
            found = reason(yard, sizes, stream)
            self.same(found is None, slow_enough_for(yard, stream, sizes))
            counts[found and found[0]] += 1
            if found is None:
                continue
            self.assertIs(is_reason(yard, sizes, stream, found), True)
            if found[0] == "stays":
                self.assertIn(found[2], stays[found[1]])
            else:
                self.assertIs(is_ring(waits, found[1]), True)
            for spoilt in few(wrong_kinds(found), 15):
                self.assertIs(is_reason(yard, sizes, stream, spoilt), False)
            beats = sorted(waits)
            for _ in range(10):
                value = [dice.one_of(beats) for _ in range(1 + dice.below(3))]
                self.assertIs(is_reason(yard, sizes, stream, ("ring", value)), is_ring(waits, value))
                beat, pipe = dice.one_of(beats), dice.below(len(sizes) + 1)
                self.assertIs(is_reason(yard, sizes, stream, ("stays", beat, pipe)), pipe in stays[beat])
        self.assertGreater(min(counts.values()), 15)


class LeastFor(Cases):
    def test_the_documents_yard(self):
        self.same([least_for(HELD_BY_TWO, stream) for stream in ("", "0", "00", "0000")],
                  [[(1, 1, 1)], [(1, 1, 1)], [(1, 2, 2)], [(1, 2, 2)]])

    def test_several_and_none(self):
        self.same(least_for(TWO_WAYS, "0"), [(2, 2, 1, 2), (2, 3, 1, 1)])
        self.same([least_for(OVERVIEW, "0" * many) for many in (2, 4, 6)], [[(1, 2, 1)], [(1, 3, 1)], []])
        self.same([least_for(COPIES, "01"), least_for(yard=HOLDS, stream="")], [[()], [()]])

    def test_not_a_beginning(self):
        yard = Yard([UNEVEN, PASS, BOTH], [(0, 0, 1, 0), (0, 1, 2, 1), (1, 0, 2, 0)])
        self.same([least_for(yard, stream) for stream in ("0", "00", "001", "000", "0011")],
                  [[(1, 1, 1)], [(1, 1, 2)], [(1, 1, 1)], [(1, 1, 3)], [(1, 1, 1)]])

    def test_many_yards(self):
        dice = Dice(453)
        for _ in range(60):
            yard, _, stream = some_small(dice)
            if len(yard.pipes) <= 3:
                self.same(least_for(yard, stream), least_slow(yard, stream))

    def test_four_pipes_and_five_ahead_of_sixty_beats(self):
        four = Yard([PASS] * 5, [(k, 0, k + 1, 0) for k in range(4)])
        five = Yard([PASS] * 6, [(k, 0, k + 1, 0) for k in range(5)])
        self.same(least_for(four, "0" * 12), [(1, 1, 1, 1)])
        self.fails(errors.TooMany, {"what": "beats", "limit": 60}, least_for, four, "0" * 13)
        self.fails(errors.TooMany, {"what": "pipes", "limit": 4}, least_for, five, "")
        self.fails(errors.TooMany, {"what": "pipes", "limit": 4}, least_for, five, "0" * 13)
        self.fails(errors.InvalidStream, {"value": None}, least_for, five, None)


def least_slow(yard, stream):
    found = [sizes for sizes in product((1, 2, 3), repeat=len(yard.pipes)) if slow_enough_for(yard, stream, sizes)]
    return [sizes for sizes in found
            if not any(sizes[:at] + (sizes[at] - 1,) + sizes[at + 1:] in found for at in range(len(sizes)))]


class Errors(Cases):
    CALLS = ((waits_for, ((0, 0),)), (stays_for, ((0, 0),)), (reason, ()), (is_reason, (None,)))

    def test_streams_ahead_of_sizes(self):
        for call, more in self.CALLS:
            self.fails_on(errors.InvalidStream, no_texts() + ["0" * 1001], lambda value: call(ROW, None, value, *more))
            self.fails_on(errors.InvalidSizes, no_sizes(ROW), lambda value: call(ROW, value, "0" * 31, *more))
            self.fails(errors.InvalidSizes, {"value": None}, call, COPIES, None, "", *more)
        self.fails_on(errors.InvalidStream, no_texts() + ["0" * 1001], lambda value: least_for(ROW, value))

    def test_beats(self):
        values = odd_values() + [(), [], (0,), [0, 0], (0, 0, 0), (2, 0), (-1, 0), (0, -1), (True, 0), (0, False), ("0", 0)]
        for call in (waits_for, stays_for):
            self.fails_on(errors.InvalidBeat, values, lambda value: call(ROW, (1,), "0" * 31, value))
            self.fails_on(errors.InvalidSizes, [(0,)], lambda value: call(ROW, value, "", None))

    def test_sixty_beats_and_one_more_ahead_of_unknown_beats(self):
        stays = ROW.begun(((0, 0), ("0",)))
        for call, more in self.CALLS:
            call(ROW, (1,), "0" * 30, *more)
            self.fails(errors.TooMany, {"what": "beats", "limit": 60}, call, stays, (1,), "0" * 30, *more)
        for call in (waits_for, stays_for):
            self.fails(errors.TooMany, {"what": "beats", "limit": 60}, call, stays, (1,), "0" * 30, (0, 99))
            self.fails_on(errors.UnknownBeat, [(0, 30), (1, 30), (1, 10 ** 29)], lambda value: call(ROW, (1,), "0" * 30, value))
            self.fails(errors.UnknownBeat, {"value": (0, 0)}, call, beat=(0, 0), stream="", sizes=(1,), yard=ROW)

    def test_full_runs_without_sizes_count(self):
        # With sizes it stands still at once; and a beat that is not done with them is known.
        self.fails(errors.TooMany, {"what": "beats", "limit": 60}, reason, DOUBLE, (1,), "0" * 21)
        self.same(waits_for(DOUBLE, (1,), "0" * 20, (1, 39)), [(0, 19), (1, 38)])


class Unchanged(Cases):
    def test_what_was_passed_and_returned(self):
        value = ("ring", [(2, 0), (1, 1), (0, 1)])
        self.assertIs(is_reason(HELD_BY_TWO, (1, 1, 3), "00", value), True)
        self.assertEqual(repr(value), "('ring', [(2, 0), (1, 1), (0, 1)])")
        for found in (reason(HELD_BY_TWO, (1, 1, 3), "00")[1], waits_for(HELD_BY_TWO, (1, 1, 3), "00", (0, 1)),
                      least_for(HELD_BY_TWO, "00"), stays_for(FILLING, (1, 1), "00", (0, 1))):
            found.clear()
        self.same(waits_for(HELD_BY_TWO, (1, 1, 3), "00", (0, 1)), [(0, 0), (1, 0), (2, 0)])
        self.same(len(reason(HELD_BY_TWO, (1, 1, 3), "00")[1]), 3)
        self.same(len(counting(60).pipes), 3)


if __name__ == "__main__":
    unittest.main()

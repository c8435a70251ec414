"""[51], [52], [54]: moments, timings, lateness and links."""

import unittest

from flowyard import errors
from flowyard.clock import given_at, is_timing, lateness, links, over_at, times
from flowyard.runs import end, full_run
from flowyard.yards import Station, Yard
from helper import (COPY, EATS, HALF, OVERVIEW, PASS, ROW, SPLIT, TWICE, UNLIKE, Cases, Dice, no_counts, no_texts,
                    odd_values, some_sizes, some_yard)
from slow_clock import slow_lateness, slow_links, ticking
from slow_sizes import slow_enough_for
from some_yards import BOTH, COPIES, FAST_SLOW, HELD_BY_TWO, SLOW, TWO, slowly
from spoiling import few, no_sizes, wrong_kinds


DOUBLE = Yard([TWICE, slowly(3)], [(0, 0, 1, 0)])
CALLS = ((times, ()), (over_at, ()), (given_at, (0,)), (is_timing, (None,)), (lateness, ()))
# One beat for each sign, and 2,000 of these are not too many.
BEGUN = ROW.begun(((0, 0), ("0",)))


def some_timed(dice):
    """A yard, a stream, how far signs are apart, and sizes or None."""
    while True:
        yard = some_yard(dice, 4)
        stream = dice.text(5)
        if len(full_run(yard, stream)) <= 60:
            return yard, stream, dice.below(12), dice.one_of([None, some_sizes(dice, yard)])


class Times(Cases):
    def test_the_documents_yards(self):
        self.same(times(SLOW, "101", 2), [(0, 3, (0, 0)), (3, 4, (0, 1)), (4, 7, (0, 2))])
        self.same([over_at(SLOW, "101", 0), lateness(SLOW, "10", 2)], [7, {("free", 0): 0}])
        self.same(links(SLOW, "", "1"), [(None, ("free", 0), 3), (("free", 0), ("free", 0), 3)])
        self.same(times(TWO, "1", 0), [(0, 1, (0, 0)), (1, 2, (1, 0)), (2, 3, (1, 1))])

    def test_signs_that_come_later(self):
        self.same(times(COPIES, "01", 5), [(0, 1, (0, 0)), (5, 6, (0, 1))])
        self.same(times(COPIES, "01", 10 ** 28), [(0, 1, (0, 0)), (10 ** 28, 10 ** 28 + 1, (0, 1))])
        self.same(times(SLOW, "111", 3), [(0, 3, (0, 0)), (3, 6, (0, 1)), (6, 9, (0, 2))])
        self.same([over_at(SLOW, "111", apart) for apart in (0, 1, 3, 4)], [9, 9, 9, 11])

    def test_no_beat_at_all(self):
        self.same([times(COPIES, "", 3), over_at(COPIES, "", 3), given_at(COPIES, "", 3, 0)], [[], 0, []])
        self.same([is_timing(COPIES, "", 3, {}), lateness(COPIES, "", 3)], [True, {("free", 0): 0}])

    def test_signs_are_there_when_the_beat_ends(self):
        self.same(times(FAST_SLOW, "00", 0), [(0, 2, (0, 0)), (2, 4, (0, 1)), (2, 7, (1, 0)), (7, 12, (1, 1))])
        both = Yard([COPY, slowly(4), UNLIKE], [(0, 0, 1, 0), (0, 1, 2, 0), (1, 0, 2, 1)])
        self.same(times(both, "0", 9), [(0, 1, (0, 0)), (1, 5, (1, 0)), (5, 6, (2, 0))])

    def test_places_are_free_when_the_taker_begins(self):
        self.same(times(FAST_SLOW, "0000", 0, (1,)),
                  [(0, 2, (0, 0)), (2, 4, (0, 1)), (2, 7, (1, 0)), (7, 9, (0, 2)), (7, 12, (1, 1)), (12, 14, (0, 3)),
                   (12, 17, (1, 2)), (17, 22, (1, 3))])
        self.same(times(FAST_SLOW, "0000", 0, (2,))[:4], [(0, 2, (0, 0)), (2, 4, (0, 1)), (2, 7, (1, 0)), (4, 6, (0, 2))])
        self.same(times(yard=FAST_SLOW, stream="0000", apart=0, sizes=(3,)), times(FAST_SLOW, "0000", 0))

    def test_places_are_taken_when_the_giver_begins(self):
        # The second sign is given at 8 alone, but its place is taken from 4 on.
        slow_first = Yard([slowly(4), slowly(9)], [(0, 0, 1, 0)])
        self.same(times(slow_first, "000", 0, (1,)), [(0, 4, (0, 0)), (4, 8, (0, 1)), (4, 13, (1, 0)), (13, 17, (0, 2)),
                                                      (13, 22, (1, 1)), (22, 31, (1, 2))])

    def test_two_signs_need_two_places(self):
        self.same([begin for begin, _, beat in times(DOUBLE, "000", 0, (2,)) if beat[0] == 0], [0, 4, 10])
        self.same([begin for begin, _, beat in times(DOUBLE, "000", 0, (3,)) if beat[0] == 0], [0, 1, 7])
        self.same([begin for begin, _, beat in times(DOUBLE, "000", 0) if beat[0] == 0], [0, 1, 2])

    def test_what_was_there_is_there_at_0(self):
        self.same(times(FAST_SLOW.begun(((0, 0), ("01",))), "0", 3), [(0, 2, (0, 0)), (0, 5, (1, 0)), (5, 10, (1, 1)),
                                                                     (10, 15, (1, 2))])
        full = FAST_SLOW.begun(((0, 0), ("011",)))
        self.same([times(full, "0", 0, (size,))[-1] for size in (1, 2, 3)],
                  [(15, 20, (1, 3)), (15, 20, (1, 3)), (15, 20, (1, 3))])
        self.same([[begin for begin, _, beat in times(full, "0", 0, (size,)) if beat == (0, 0)] for size in (1, 2, 3)],
                  [[10], [5], [0]])

    def test_what_stands_still_is_not_done(self):
        self.same(times(DOUBLE, "00", 0, (1,)), [])
        self.same(over_at(DOUBLE, "00", 0, (1,)), 0)
        self.same(times(HELD_BY_TWO, "00", 0, (1, 1, 3)), [(0, 1, (0, 0)), (1, 2, (1, 0))])

    def test_given_at(self):
        split = Yard([SPLIT, slowly(4), TWICE], [(0, 0, 1, 0), (0, 1, 2, 0)])
        self.same([given_at(split, "0011", 1, outlet) for outlet in (0, 1)],
                  [[(5, "0"), (9, "0")], [(3, "00"), (5, "11")]])
        self.same(given_at(Yard([HALF], []), "0110", 5, 0), [(6, "1"), (16, "0")])
        self.same(given_at(sizes=(1,), outlet=0, apart=0, stream="00", yard=FAST_SLOW), [(7, "0"), (12, "0")])
        self.same(given_at(Yard([EATS], []), "0110", 5, 0), [])

    def test_many_yards_by_a_clock_that_goes_tick_by_tick(self):
        dice = Dice(511)
        for _ in range(120):
            yard, stream, apart, sizes = some_timed(dice)
            slow = ticking(yard, stream, apart, sizes)
            self.same(times(yard, stream, apart, sizes), sorted(slow.done))
            self.same(over_at(yard, stream, apart, sizes), max([0] + [over for _, over, _ in slow.done]))
            for outlet in range(len(yard.exits)):
                self.same(given_at(yard, stream, apart, outlet, sizes), slow.given[outlet])

    def test_two_thousand_beats_and_one_more(self):
        for call, more in CALLS:
            call(ROW, "0" * 1000, 1, *more)
            self.fails(errors.TooMany, {"what": "beats", "limit": 2000}, call, BEGUN, "0" * 1000, 1, *more)
            self.fails(errors.TooMany, {"what": "beats", "limit": 2000}, call, BEGUN, "0" * 1000, 1, *more, (2,))
        self.same(len(times(ROW, "0" * 1000, 1, (1,))), 2000)
        # Those that can be done with the sizes are counted.
        self.same(times(Yard([TWICE, TWICE], [(0, 0, 1, 0)]), "0" * 1000, 1, (1,)), [])


class Timings(Cases):
    def test_the_soonest_one_and_others(self):
        for yard, stream, apart, sizes in [(FAST_SLOW, "000", 0, None), (FAST_SLOW, "000", 0, (1,)), (SLOW, "101", 2, None),
                                           (DOUBLE, "00", 1, (2,)), (HELD_BY_TWO, "0110", 3, (1, 2, 2))]:
            soonest = {beat: begin for begin, _, beat in times(yard, stream, apart, sizes)}
            self.assertIs(is_timing(yard, stream, apart, soonest, sizes), True)
            self.assertIs(is_timing(yard, stream, apart, dict(list(soonest.items())[::-1]), sizes), True)
            for beat in soonest:
                self.assertIs(is_timing(yard, stream, apart, {**soonest, beat: soonest[beat] - 1}, sizes), False)
                less = {other: begin for other, begin in soonest.items() if other != beat}
                self.assertIs(is_timing(yard, stream, apart, less, sizes), False)
            later = {beat: 7 * begin + 5 for beat, begin in soonest.items()}
            self.assertIs(is_timing(yard, stream, apart, later, sizes), True)
            for more in [(9, 0), (0, 99), (0, -1), None, "x", (0,), (0, 0, 0)]:
                self.assertIs(is_timing(yard, stream, apart, {**soonest, more: 100}, sizes), False)
                self.assertIs(is_timing(yard, stream, apart, {**less, more: 100}, sizes), False)

    def test_by_the_other_begins(self):
        later = {(0, 0): 0, (1, 0): 4, (0, 1): 5, (1, 1): 9}
        self.assertIs(is_timing(FAST_SLOW, "00", 0, later), True)
        for beat, begin, wanted in [((1, 0), 5, False), ((1, 1), 8, False), ((0, 1), 7, True), ((0, 1), 8, False),
                                    ((0, 0), 2, True), ((0, 0), 3, False), ((0, 1), 1, False)]:
            self.assertIs(is_timing(FAST_SLOW, "00", 0, {**later, beat: begin}), wanted)
        # With one place the third sign is not given before the second one is taken, whenever that is.
        sized = {(0, 0): 0, (0, 1): 6, (0, 2): 13, (1, 0): 5, (1, 1): 12, (1, 2): 17}
        self.assertIs(is_timing(FAST_SLOW, "000", 0, sized, (1,)), True)
        for beat, begin, wanted in [((0, 1), 5, True), ((0, 1), 4, False), ((0, 2), 12, True), ((0, 2), 11, False)]:
            self.assertIs(is_timing(FAST_SLOW, "000", 0, {**sized, beat: begin}, (1,)), wanted)
        self.assertIs(is_timing(FAST_SLOW, "000", 0, {**sized, (0, 2): 11}), True)
        self.assertIs(is_timing(FAST_SLOW, "000", 0, {**sized, (0, 2): 8}, (2,)), True)

    def test_the_coming_of_signs(self):
        self.assertIs(is_timing(COPIES, "01", 5, {(0, 0): 0, (0, 1): 5}), True)
        self.assertIs(is_timing(COPIES, "01", 5, {(0, 0): 0, (0, 1): 4}), False)
        self.assertIs(is_timing(value={(0, 0): 3, (0, 1): 7}, apart=5, stream="01", yard=COPIES, sizes=()), True)

    def test_of_two_places_the_last_one_alone(self):
        # The beat needs the taker that makes room for both; this is the later one by any timing.
        full = Yard([TWICE, PASS], [(0, 0, 1, 0)], ((0, 0), ("01",)))
        timing = {(0, 0): 4, (1, 0): 2, (1, 1): 4, (1, 2): 5, (1, 3): 6}
        for begin, wanted in [(4, True), (3, False), (2, False)]:
            self.assertIs(is_timing(full, "0", 0, {**timing, (0, 0): begin}, (2,)), wanted)
        self.assertIs(is_timing(full, "0", 0, {**timing, (0, 0): 2}, (3,)), True)

    def test_any_value(self):
        soonest = {(0, 0): 0, (0, 1): 1}
        self.assertIs(is_timing(COPIES, "01", 0, soonest), True)
        for value in odd_values() + [[], (), "", 0, list(soonest.items()), list(soonest), {}, {(0, 0): 0},
                                     {(False, 0): 0, (0, 1): 1}, {(0, False): 0, (0, 1): 1}, {(0, 0): 0, (0, True): 1},
                                     {(0, 0): False, (0, 1): 1}, {(0, 0): 0, (0, 1): True}, {(0, 0): 0, (0, 1): None},
                                     {(0, 0): 0, (0, 1): "1"}, {(0, 0): -1, (0, 1): 1}, {0: 0, 1: 1},
                                     {"00": 0, "01": 1}, {frozenset([0]): 0, (0, 1): 1}]:
            self.assertIs(is_timing(COPIES, "01", 0, value), False)
        for value in wrong_kinds(soonest):
            self.assertIs(is_timing(COPIES, "01", 0, value), False)

    def test_with_sizes_that_stand_still(self):
        self.assertIs(is_timing(DOUBLE, "00", 0, {}, (1,)), True)
        self.assertIs(is_timing(HELD_BY_TWO, "00", 0, {(0, 0): 0, (1, 0): 1}, (1, 1, 3)), True)
        self.assertIs(is_timing(HELD_BY_TWO, "00", 0, {(0, 0): 0, (1, 0): 1, (0, 1): 5}, (1, 1, 3)), False)

    def test_many_yards(self):
        dice = Dice(521)
        counts = [0, 0]
        for _ in range(60):
            yard, stream, apart, sizes = some_timed(dice)
            timing = {beat: begin for begin, _, beat in times(yard, stream, apart, sizes)}
            self.assertIs(is_timing(yard, stream, apart, timing, sizes), True)
            for beat in list(timing)[:9]:
                # One that begins later by some ticks puts off just those that then begin too soon.
                late = {**timing, beat: timing[beat] + dice.below(4)}
                wanted = slow_is_timing(yard, stream, apart, late, sizes)
                counts[wanted] += 1
                self.assertIs(is_timing(yard, stream, apart, late, sizes), wanted)
            for spoilt in few(wrong_kinds(timing), 10):
                self.assertIs(is_timing(yard, stream, apart, spoilt, sizes), False)
        self.assertGreater(min(counts), 40)

    def test_nothing_that_was_passed_is_changed(self):
        timing = {(0, 1): 9, (0, 0): 3}
        self.assertIs(is_timing(COPIES, "01", 0, timing), True)
        self.assertEqual(repr(timing), "{(0, 1): 9, (0, 0): 3}")


def slow_is_timing(yard, stream, apart, timing, sizes):
    """By the beats that each one needs [15], those for room told apart from others by the needs without sizes."""
    from orders import slow_needs
    plain = slow_needs(yard, stream, None)
    sized = plain if sizes is None else slow_needs(yard, stream, sizes)
    ticks = {beat: over - begin for begin, over, beat in times(yard, stream, apart, sizes)}
    for beat, begin in timing.items():
        if beat[0] == 0 and begin < beat[1] * apart:
            return False
        for needed in sized[beat]:
            wait = ticks[needed] if needed in plain[beat] else 0
            if begin < timing[needed] + wait:
                return False
    return True


class Lateness(Cases):
    def test_slots_of_all_kinds(self):
        self.same(lateness(HELD_BY_TWO, "0", 3, (2, 3, 2)),
                  {("free", 0): -2, ("free", 1): -1, ("free", 2): -3, ("room", 0, 0): -3, ("room", 0, 1): -2,
                   ("room", 1, 0): -3, ("room", 1, 1): -3, ("room", 2, 0): -3, ("room", 2, 1): -3, ("sign", 1, 0): -2})
        self.same(lateness(HELD_BY_TWO, "0", 3), {("free", 0): -2, ("free", 1): -1, ("free", 2): -3, ("sign", 1, 0): -2})
        self.same(lateness(apart=0, stream="00", yard=FAST_SLOW), {("free", 0): 4, ("free", 1): 12})

    def test_the_front_and_the_place_freed_first_come_first(self):
        first = Station(1, 2, [("1", [(("01", ""), 0, 2), (("0", "0"), 0, 5)])])
        wide = Yard([first, BOTH], [(0, 0, 1, 0), (0, 1, 1, 1)])
        self.same(lateness(wide, "01", 0, (3, 2)),
                  {("free", 0): 7, ("free", 1): 8, ("room", 0, 0): 7, ("room", 1, 0): 0, ("room", 1, 1): 7,
                   ("sign", 0, 0): 2, ("sign", 0, 1): 7})

    def test_behind_the_empty_stream(self):
        self.same(lateness(FAST_SLOW, "", 4, (2,)), {("free", 0): 0, ("free", 1): 0, ("room", 0, 0): 0, ("room", 0, 1): 0})
        begun = FAST_SLOW.begun(((0, 0), ("01",)))
        self.same(lateness(begun, "", 4, (3,)), {("free", 0): 0, ("free", 1): 10, ("room", 0, 0): 0, ("room", 0, 1): 0,
                                                ("room", 0, 2): 5})
        self.same(lateness(begun, "", 4, (1,)), {("free", 0): 0, ("free", 1): 10, ("room", 0, 0): 5})

    def test_pipes_with_more_than_their_size(self):
        third = Yard([HALF, slowly(5)], [(0, 0, 1, 0)], ((0, 0), ("011",)))
        self.same(lateness(third, "", 0, (1,)), {("free", 0): 0, ("free", 1): 15, ("room", 0, 0): 10})
        waits = Yard([COPY, BOTH], [(0, 0, 1, 0), (0, 1, 1, 1)], ((0, 0), ("011", "")))
        self.same(lateness(waits, "", 0, (1, 1)), {("free", 0): 0, ("free", 1): 0, ("room", 1, 0): 0, ("sign", 0, 0): 0,
                                                  ("sign", 0, 1): 0, ("sign", 0, 2): 0})

    def test_keys_are_sorted(self):
        dice = Dice(541)
        for _ in range(60):
            yard, stream, apart, sizes = some_timed(dice)
            if not slow_enough_for(yard, stream, sizes):
                self.fails(errors.NotEnough, {"stream": stream}, lateness, yard, stream, apart, sizes)
                continue
            found = lateness(yard, stream, apart, sizes)
            self.same(found, slow_lateness(yard, stream, apart, sizes))
            self.same(list(found), sorted(found))

    def test_many_signs_of_a_stream(self):
        found = lateness(OVERVIEW, "0" * 24, 1)
        self.same([slot for slot in found if slot[0] == "sign"], [("sign", 1, k) for k in range(12)])
        self.same(found[("sign", 1, 11)], 0)

    def test_returned_dicts_are_new(self):
        lateness(COPIES, "0", 0).clear()
        self.same(lateness(COPIES, "0", 0), {("free", 0): 1})
        links(COPIES, "0", "0").clear()
        self.same(len(links(COPIES, "0", "0")), 2)


class Links(Cases):
    def test_what_is_left_as_it_is(self):
        # Nothing is given: the second station, its pipe's sign and its places are not touched.
        yard = Yard([HALF, slowly(5)], [(0, 0, 1, 0)])
        self.same(links(yard, "", "0", (2,)),
                  [(None, ("free", 0), 1), (("free", 0), ("free", 0), 1), (("free", 1), ("free", 1), 0),
                   (("room", 0, 0), ("room", 0, 0), 0), (("room", 0, 1), ("room", 0, 1), 0)])

    def test_signs_are_counted_behind_the_step(self):
        stays = Yard([Station(1, 2, [("1", [(("0", ""), 0, 1), (("", "0"), 0, 1)])]), BOTH], [(0, 0, 1, 0), (0, 1, 1, 1)])
        found = links(stays, "00", "1", (3, 1))
        self.assertIn((("sign", 0, 1), ("sign", 0, 0), 0), found)
        self.assertIn((("sign", 0, 0), ("free", 1), 1), found)
        self.assertIn((("room", 0, 0), ("room", 0, 0), 0), found)
        self.assertIn((("sign", 0, 0), ("room", 0, 1), 0), found)
        self.assertIn((None, ("room", 0, 1), 1), found)

    def test_with_none_ahead_of_the_others(self):
        found = links(HELD_BY_TWO, "0", "1", (1, 2, 2))
        cut = [link[0] is None for link in found].index(False)
        self.same(found, sorted(found[:cut], key=repr) + sorted(found[cut:]))
        self.same([link[0] is None for link in found], [True] * cut + [False] * (len(found) - cut))

    def test_the_greatest_ticks_of_links_that_are_alike(self):
        # To the last station the sign comes by two ways, of two ticks and of nine.
        yard = Yard([COPY, slowly(2), slowly(9), UNLIKE], [(0, 0, 1, 0), (0, 1, 2, 0), (1, 0, 3, 0), (2, 0, 3, 1)])
        found = links(yard, "", "0")
        self.same([link for link in found if link[0] is None],
                  [(None, ("free", 0), 1), (None, ("free", 1), 3), (None, ("free", 2), 10), (None, ("free", 3), 11)])
        self.same(len({link[:2] for link in found}), len(found))

    def test_who_gives_two_signs_has_links_from_both_places(self):
        found = links(DOUBLE, "", "1", (2,))
        self.assertIn((("room", 0, 0), ("free", 0), 1), found)
        self.assertIn((("room", 0, 1), ("free", 0), 1), found)
        found = links(DOUBLE, "", "1", (3,))
        self.same([link for link in found if link[0] == ("room", 0, 2)], [(("room", 0, 2), ("room", 0, 0), 0)])
        self.same([link for link in found if link[1] == ("room", 0, 2)],
                  [(None, ("room", 0, 2), 4), (("free", 0), ("room", 0, 2), 4), (("free", 1), ("room", 0, 2), 3),
                   (("room", 0, 0), ("room", 0, 2), 4), (("room", 0, 1), ("room", 0, 2), 4)])

    def test_behind_several_streams(self):
        for stream in ("", "0", "1", "01", "0110"):
            self.same(links(SLOW, stream, "0"), [(None, ("free", 0), 1), (("free", 0), ("free", 0), 1)])
        self.same(links(HELD_BY_TWO, "01", "1"), links(HELD_BY_TWO, "", "1"))
        self.assertNotEqual(links(HELD_BY_TWO, "0", "1"), links(HELD_BY_TWO, "", "1"))
        self.same(links(sign="0", stream="0" * 1000, yard=COPIES, sizes=()), links(COPIES, "", "0"))

    def test_many_yards_by_making_each_slot_late_alone(self):
        dice = Dice(542)
        told = 0
        for _ in range(70):
            yard, stream, apart, sizes = some_timed(dice)
            for sign in "01":
                wrong = [each for each in (stream, stream + sign) if not slow_enough_for(yard, each, sizes)]
                if wrong:
                    self.fails(errors.NotEnough, {"stream": wrong[0]}, links, yard, stream, sign, sizes)
                    continue
                found = links(yard, stream, sign, sizes)
                self.same(sorted(found, key=repr), sorted(slow_links(yard, end(yard, stream, sizes)[:2], sign, sizes), key=repr))
                late = {**lateness(yard, stream, apart, sizes), None: 0}
                behind = {}
                for slot, later, ticks in found:
                    behind[later] = max(late[slot] + ticks - apart, behind.get(later, -1000))
                self.same({slot: behind[slot] for slot in sorted(behind)}, lateness(yard, stream + sign, apart, sizes))
                told += 1
        self.assertGreater(told, 80)


class Errors(Cases):
    def test_streams_sizes_and_apart_in_this_sequence(self):
        for call, more in CALLS:
            wrong = [None if value == 0 else value for value in more]
            for yard in (ROW, BEGUN):
                self.fails_on(errors.InvalidStream, no_texts() + ["0" * 1001], lambda value: call(yard, value, -1, *wrong, (9,)))
                self.fails_on(errors.InvalidSizes, [value for value in no_sizes(ROW) if value is not None],
                              lambda value: call(yard, "0" * 1000, None, *wrong, value))
                self.fails_on(errors.InvalidNumber, no_counts(), lambda value: call(yard, "0" * 1000, value, *wrong, (1,)))
                self.fails_on(errors.InvalidNumber, no_counts()[:3], lambda value: call(yard, "0" * 1000, value, *wrong))
            call(ROW, "0", 0, *more, sizes=None)
            self.fails(errors.InvalidSizes, {"value": ()}, call, ROW, "0", 0, *more, sizes=())
        self.fails(errors.InvalidNumber, {"value": True}, times, apart=True, stream="", yard=ROW)

    def test_exits(self):
        self.fails_on(errors.InvalidExit, no_counts() + [1, 10 ** 29], lambda value: given_at(BEGUN, "0" * 1000, 0, value))
        self.fails_on(errors.InvalidNumber, [-1], lambda value: given_at(BEGUN, "0" * 1000, value, None))

    def test_signs_behind_sizes(self):
        self.fails_on(errors.InvalidStream, no_texts() + ["0" * 1001], lambda value: links(ROW, value, None, 0))
        self.fails_on(errors.InvalidSizes, [(0,), (), [1]], lambda value: links(BEGUN, "0" * 1000, None, value))
        self.fails_on(errors.InvalidSign, no_texts() + ["", "00", "10"], lambda value: links(BEGUN, "0" * 1000, value, (1,)))
        self.fails(errors.InvalidSign, {"value": ""}, links, sign="", stream="", yard=ROW)

    def test_not_enough(self):
        for apart in (0, 5):
            self.fails(errors.NotEnough, {"stream": "00"}, lateness, HELD_BY_TWO, "00", apart, (1, 1, 3))
        self.fails(errors.NotEnough, {"stream": "00"}, links, HELD_BY_TWO, "00", "1", (1, 1, 3))
        self.fails(errors.NotEnough, {"stream": "01"}, links, HELD_BY_TWO, "0", "1", (1, 1, 3))
        self.fails(errors.NotEnough, {"stream": "1"}, links, DOUBLE, "", "1", (1,))
        self.same(lateness(HELD_BY_TWO, "0", 1, (1, 1, 3))[("room", 2, 2)], -1)

    def test_a_stream_is_enough_though_a_beginning_is_not(self):
        parts = Station(1, 2, [("1", [(("0", ""), 0, 1), (("", "1"), 0, 1)])])
        yard = Yard([parts, PASS, BOTH], [(0, 0, 1, 0), (0, 1, 2, 1), (1, 0, 2, 0)])
        self.fails(errors.NotEnough, {"stream": "00"}, lateness, yard, "00", 1, (2, 1, 1))
        self.fails(errors.NotEnough, {"stream": "00"}, links, yard, "00", "1", (2, 1, 1))
        self.same(lateness(yard, "001", 1, (2, 1, 1)), slow_lateness(yard, "001", 1, (2, 1, 1)))
        self.same(len(links(yard, "001", "1", (2, 1, 1))) > 0, True)
        self.fails(errors.NotEnough, {"stream": "0010"}, links, yard, "001", "0", (2, 1, 1))

    def test_two_thousand_beats_of_links_ahead_of_not_enough(self):
        self.same(len(links(ROW, "0" * 999, "0")) > 0, True)
        self.fails(errors.TooMany, {"what": "beats", "limit": 2000}, links, BEGUN, "0" * 999, "0")
        self.fails(errors.TooMany, {"what": "beats", "limit": 2000}, links, ROW, "0" * 1000, "0")
        self.fails(errors.TooMany, {"what": "beats", "limit": 2000}, links, ROW, "0" * 1000, "0", (1,))
        # Behind 2,000 beats with sizes it stands still.
        first = Station(1, 1, [("1", [(("0",), 0, 1), (("00",), 0, 1)])])
        stills = Yard([first, PASS], [(0, 0, 1, 0)])
        self.fails(errors.NotEnough, {"stream": "0" * 999 + "1"}, links, stills, "0" * 999, "1", (1,))
        self.fails(errors.NotEnough, {"stream": "0" * 998 + "1"}, links, stills, "0" * 998 + "1", "1", (1,))
        begun = stills.begun(((0, 0), ("000",)))
        self.fails(errors.TooMany, {"what": "beats", "limit": 2000}, links, begun, "0" * 999 + "1", "1", (1,))
        self.fails(errors.TooMany, {"what": "beats", "limit": 2000}, lateness, begun, "0" * 999 + "1", 0, (1,))
        self.fails(errors.NotEnough, {"stream": "0" * 998 + "1"}, lateness, begun, "0" * 998 + "1", 0, (1,))


if __name__ == "__main__":
    unittest.main()

"""[41], [42], [43]: beats that lack room, sizes that are enough, standstills, rests with sizes, room lists."""

import unittest

from flowyard import errors
from flowyard.room import (are_enough, are_enough_for, is_room_list, is_standstill, lacking, room_list, standstill,
                           still_stream)
from flowyard.runs import begin_of, full_run, state_behind
from flowyard.yards import Station, Yard
from helper import (COPY, HALF, OVERVIEW, PASS, ROW, TWICE, UNLIKE, Cases, Dice, no_texts, odd_values, slow_begin,
                    slow_behind, slow_can, slow_full_runs, some_sizes, some_yard)
from slow_sizes import slow_enough_for, slow_lacking, slow_sized_rests, slow_still
from some_yards import BOTH, COPIES, HELD_BY_TWO, HOLDS, UNEVEN, counting, fourfold
from spoiling import few, no_sizes, with_tuples, wrong_kinds

DOUBLE = Yard([TWICE, PASS], [(0, 0, 1, 0)])
# It eats the first sign, and passes all others by two and two, for which one place is too few.
LATER = Station(1, 1, [("1", [(("0",), 1, 1)] * 2), ("1", [(("00",), 0, 1)] * 2)])
def judged(yard, sizes, value):
    """A slow reading of [43] for a list of tuples (standings, contents), by all full runs there are."""
    if len(set(value)) < len(value):
        return False
    for rest, coming in [(yard.begin, "")] + [(rest, sign) for rest in value for sign in "01"]:
        for _, state in slow_full_runs(yard.begun(rest), coming, sizes, 5000):
            if state[:2] not in value or state[2] or slow_lacking(yard, state, sizes):
                return False
    return True


def few_rests(yard, sizes):
    """The room list, or some list of one place where there is none."""
    try:
        return room_list(yard, sizes) or [yard.begin]
    except errors.TooMany:
        return [yard.begin]


class Lacking(Cases):
    def test_at_states_of_runs(self):
        self.same(lacking(DOUBLE, begin_of(DOUBLE, "0"), (1,)), [0])
        self.same(lacking(DOUBLE, begin_of(DOUBLE, "0"), (2,)), [])
        self.same(lacking(DOUBLE, begin_of(DOUBLE, ""), (1,)), [])
        self.same(lacking(yard=HELD_BY_TWO, state=state_behind(HELD_BY_TWO, "00", [0, 1]), sizes=(1, 1, 3)), [0])
        self.same(lacking(HELD_BY_TWO, state_behind(HELD_BY_TWO, "00", [0, 1]), (1, 2, 3)), [])

    def test_at_any_state(self):
        full = ((0, 0), ("0101",), "1", ("",))
        self.same([lacking(ROW, full, (size,)) for size in (1, 2, 3)], [[0], [0], [0]])
        self.same([lacking(ROW, ((0, 0), ("01",), "1", ("",)), (size,)) for size in (1, 2, 3)], [[0], [0], []])
        yard = Yard([COPY, PASS, PASS, UNLIKE], [(0, 0, 1, 0), (0, 1, 2, 0), (1, 0, 3, 0), (2, 0, 3, 1)])
        state = ((0,) * 4, ("0", "1", "1", ""), "11", ("",))
        self.same([lacking(yard, state, sizes) for sizes in [(1, 1, 1, 1), (2, 2, 1, 1), (2, 2, 2, 2), (2, 1, 2, 1)]],
                  [[0, 1], [1], [], [0]])

    def test_what_gives_nothing_lacks_no_room(self):
        yard = Yard([HALF, PASS], [(0, 0, 1, 0)])
        self.same(lacking(yard, ((0, 0), ("0000",), "1", ("",)), (1,)), [])
        self.same(lacking(yard, ((1, 0), ("0000",), "1", ("",)), (1,)), [0])
        self.same(lacking(COPIES, ((0,), (), "1", ("",)), ()), [])

    def test_many_states(self):
        dice = Dice(411)
        for _ in range(150):
            yard = some_yard(dice, 4)
            state = (tuple(dice.below(len(station)) for station in yard.stations),
                     tuple(dice.text(4) for _ in yard.pipes), dice.text(2), tuple(dice.text(1) for _ in yard.exits))
            sizes = some_sizes(dice, yard)
            self.same(lacking(yard, state, sizes), slow_lacking(yard, state, sizes))

    def test_errors(self):
        self.fails_on(errors.InvalidState, odd_values() + [(), ((0, 0), ("",), "", ("", ""))],
                      lambda value: lacking(ROW, value, None))
        self.fails_on(errors.InvalidSizes, no_sizes(ROW), lambda value: lacking(ROW, begin_of(ROW, ""), value))
        self.fails(errors.InvalidSizes, {"value": None}, lacking, COPIES, begin_of(COPIES, ""), None)


class EnoughForOne(Cases):
    def test_streams(self):
        self.same([are_enough_for(HELD_BY_TWO, (1, 1, 3), stream) for stream in ("", "0", "01", "010")],
                  [True, True, False, False])
        self.same([are_enough_for(DOUBLE, (size,), "0") for size in (1, 2, 3)], [False, True, True])
        self.same(are_enough_for(stream="01", sizes=(1,), yard=ROW), True)
        self.same(are_enough_for(COPIES, (), "01" * 500), True)
        self.same([are_enough_for(OVERVIEW, (1, 3, 1), "0" * many) for many in (5, 6, 7)], [True, False, False])

    def test_for_a_stream_and_not_for_a_beginning_of_it(self):
        # 0 goes the one way, 1 the other one, and both are read together. Of 00 a sign waits for room, of 001 none.
        yard = Yard([UNEVEN, PASS, BOTH], [(0, 0, 1, 0), (0, 1, 2, 1), (1, 0, 2, 0)])
        self.same([are_enough_for(yard, (2, 1, 1), stream) for stream in ("0", "00", "001", "0001", "00011", "000111")],
                  [True, False, True, False, True, True])
        turns = Yard([UNEVEN, BOTH], [(0, 0, 1, 0), (0, 1, 1, 1)])
        self.same([are_enough_for(turns, (1, 1), stream) for stream in ("0", "00", "001", "01", "0101", "0011")],
                  [True, False, False, True, True, False])

    def test_many_yards(self):
        dice = Dice(412)
        beginnings = 0
        for _ in range(150):
            yard, sizes = some_yard(dice, 4), None
            sizes = some_sizes(dice, yard)
            enough = []
            for stream in [dice.text(4), "0101", "1100"]:
                for length in range(len(stream) + 1):
                    enough.append(are_enough_for(yard, sizes, stream[:length]))
                    self.same(enough[-1], slow_enough_for(yard, stream[:length], sizes))
                    beginnings += length > 0 and enough[-1] and not enough[-2]
        self.assertGreater(beginnings, 0)

    def test_errors(self):
        self.fails_on(errors.InvalidStream, no_texts() + ["0" * 1001], lambda value: are_enough_for(ROW, None, value))
        self.fails_on(errors.InvalidSizes, no_sizes(ROW), lambda value: are_enough_for(ROW, value, ""))
        self.fails_on(errors.InvalidSizes, no_sizes(ROW)[-3:], lambda value: are_enough_for(yard=ROW, stream="", sizes=value))

    def test_twenty_thousand_beats(self):
        stations = [PASS, PASS, PASS, TWICE] + [PASS] * 8
        pipes = [(k, 0, k + 1, 0) for k in range(11)]
        most = Yard(stations, pipes)
        more = Yard(stations, pipes, ((0,) * 12, ("",) * 10 + ("0",)))
        for sizes in ((2,) * 11, (1,) * 11, (3,) * 11):
            self.same(are_enough_for(most, sizes, "0" * 1000), sizes != (1,) * 11)
            self.fails(errors.TooMany, {"what": "beats", "limit": 20000}, are_enough_for, more, sizes, "0" * 1000)


class Enough(Cases):
    def test_the_documents_yard(self):
        self.same([are_enough(HELD_BY_TWO, sizes) for sizes in [(1, 2, 2), (1, 1, 3), (1, 2, 1), (3, 3, 3), (1, 3, 2)]],
                  [True, False, False, True, True])
        self.same([still_stream(HELD_BY_TWO, (1, 1, 3)), standstill(HELD_BY_TWO, (1, 1, 3))], ["00", ("00", [0, 1])])
        self.same(room_list(HELD_BY_TWO, (1, 2, 2)),
                  [((0, 0, 0), ("", "", "")), ((0, 1, 0), ("", "0", "")), ((0, 2, 0), ("", "1", ""))])
        self.same([room_list(HELD_BY_TWO, (1, 1, 3)), still_stream(HELD_BY_TWO, (1, 2, 2)), standstill(HELD_BY_TWO, (1, 2, 2))],
                  [None, None, None])

    def test_yards_without_pipes(self):
        self.same([are_enough(HOLDS, ()), room_list(HOLDS, ()), still_stream(HOLDS, ()), standstill(HOLDS, ())],
                  [True, [((0,), ()), ((1,), ()), ((2,), ())], None, None])

    def test_two_signs_at_once_need_two_places(self):
        self.same([are_enough(DOUBLE, (size,)) for size in (1, 2, 3)], [False, True, True])
        self.same([still_stream(DOUBLE, (1,)), standstill(DOUBLE, (1,))], ["0", ("0", [])])

    def test_the_least_stream_that_stands_still(self):
        yard = Yard([LATER, PASS], [(0, 0, 1, 0)])
        self.same([still_stream(yard, (1,)), standstill(yard, (1,))], ["00", ("00", [0, 1])])
        turns = Yard([UNEVEN, BOTH], [(0, 0, 1, 0), (0, 1, 1, 1)])
        self.same([still_stream(turns, sizes) for sizes in [(1, 1), (2, 1), (3, 1), (2, 2), (3, 3)]],
                  ["00", "11", "11", "000", "0000"])
        self.same(still_stream(sizes=(1, 3, 1), yard=OVERVIEW), "0" * 6)

    def test_the_empty_stream_stands_still(self):
        yard = Yard([PASS, TWICE, PASS], [(0, 0, 1, 0), (1, 0, 2, 0)], ((0, 0, 0), ("1", "")))
        self.same([still_stream(yard, (1, 1)), room_list(yard, (1, 1)), standstill(yard, (1, 1))], ["", None, ("", [])])
        self.same(still_stream(yard, (1, 2)), None)
        self.same(is_standstill(yard, (1, 1), ("", [])), True)

    def test_begun_with_more_than_the_sizes(self):
        full = ROW.begun(((0, 0), ("010",)))
        self.same([are_enough(full, (size,)) for size in (1, 2, 3)], [True] * 3)
        self.same(room_list(full, (1,)), [((0, 0), ("",))])
        stays = Yard([COPY, BOTH], [(0, 0, 1, 0), (0, 1, 1, 1)], ((0, 0), ("010", "")))
        self.same([are_enough(stays, sizes) for sizes in [(3, 1), (2, 1), (3, 3)]], [False] * 3)
        self.same([still_stream(stays, sizes) for sizes in [(3, 1), (2, 1)]], ["0", "0"])

    def test_led_streams_alone_have_rests(self):
        # Behind 0 the sizes are not enough, though they are for 00 again: its rest is none.
        dice = Dice(421)
        found = 0
        for _ in range(400):
            yard = some_yard(dice, 4)
            sizes = some_sizes(dice, yard)
            enough = [slow_enough_for(yard, stream, sizes) for stream in ("", "0", "00", "1", "10", "01", "11")]
            if enough[0] and not all(enough):
                found += (enough[2] or enough[5]) and not enough[1]
                self.same(room_list(yard, sizes), None)
        self.assertGreater(found, 0)

    def test_many_yards(self):
        dice = Dice(422)
        counts = [0, 0]
        for _ in range(100):
            yard = some_yard(dice, 4)
            sizes = some_sizes(dice, yard)
            still, paper = still_stream(yard, sizes), room_list(yard, sizes)
            slow = slow_still(yard, sizes, 4)
            counts[still is None] += 1
            self.same([are_enough(yard, sizes), paper is None, standstill(yard, sizes) is None],
                      [still is None, still is not None, still is None])
            if still is None or slow is not None:
                self.same(still, slow)
            if still is None:
                met = slow_sized_rests(yard, sizes, 4)
                self.same(paper[:len(met)], met)
                self.assertIs(judged(yard, sizes, paper), True)
            else:
                self.assertIs(slow_enough_for(yard, still, sizes), False)
                self.same(standstill(yard, sizes)[0], still)
                self.same(len(standstill(yard, sizes)[1]), len(full_run(yard, still, sizes)))
        self.assertGreater(min(counts), 20)

    def test_returned_lists_are_new(self):
        for found in (room_list(HELD_BY_TWO, (1, 2, 2)), standstill(HELD_BY_TWO, (1, 1, 3))[1]):
            found.clear()
        self.same([len(room_list(HELD_BY_TWO, (1, 2, 2))), standstill(HELD_BY_TWO, (1, 1, 3))], [3, ("00", [0, 1])])


class LookingThroughSizes(Cases):
    FOUR = (are_enough, room_list, still_stream, standstill)

    def test_sizes(self):
        for call in self.FOUR:
            self.fails_on(errors.InvalidSizes, no_sizes(ROW), lambda value: call(ROW, value))
            self.fails(errors.InvalidSizes, {"value": None}, call, sizes=None, yard=COPIES)
            self.fails(errors.InvalidSizes, {"value": (1,)}, call, COPIES, (1,))

    def test_sixty_rests_and_one_more(self):
        self.same(len(room_list(counting(60), (1, 1, 1))), 60)
        for call in self.FOUR:
            self.fails(errors.TooMany, {"what": "rests", "limit": 60}, call, counting(61), (1, 2, 3))

    def test_also_if_they_are_not_enough(self):
        # By 1 it stands still at once; by 0 it comes to a 61st rest, or to no more than sixty.
        gate = Station(1, 1, [("1", [(("0",), 0, 1), (("00",), 0, 1)])])
        most, more = [Yard([gate, *counting(rests).stations[1:]], counting(rests).pipes, counting(rests).begin)
                      for rests in (60, 61)]
        self.same(still_stream(most, (1, 1, 1)), "1")
        for call in self.FOUR:
            self.fails(errors.TooMany, {"what": "rests", "limit": 60}, call, more, (1, 1, 1))

    def test_not_as_in_stage_3(self):
        # The yard is not held, but with sizes it has few rests.
        self.same(still_stream(OVERVIEW, (1, 1, 1)), "00")
        # No signs at an exit are too many.
        self.same(are_enough(Yard([TWICE] * 7, [(k, 0, k + 1, 0) for k in range(6)]), (2,) * 6), True)

    def test_twenty_thousand_beats(self):
        seven = fourfold(7)
        self.same(are_enough(fourfold(6), (2,) * 12), True)
        for sizes in ((2,) * 14, (3,) * 14):
            for call in self.FOUR:
                self.fails(errors.TooMany, {"what": "beats", "limit": 20000}, call, seven, sizes)
        # With one place for two signs it stands still at once.
        self.same(standstill(seven, (1,) + (2,) * 13), ("0", []))

    def test_four_thousand_beats_of_a_standstill(self):
        # 0 makes 5,461 beats, or 1,365; two signs at once behind it lack room.
        for times, wanted in [(6, None), (5, 1365)]:
            inner = fourfold(times)
            first = Station(1, 1, [("1", [(("0",), 1, 1)] * 2), ("1", [(("00",), 1, 1)] * 2)])
            pipes = [(0, 0, 1, 0)] + [(pipe[0] + 1, pipe[1], pipe[2] + 1, pipe[3]) for pipe in inner.pipes]
            yard = Yard([first, *inner.stations], pipes)
            sizes = (1,) + (2,) * (2 * times)
            self.same([still_stream(yard, sizes), room_list(yard, sizes), are_enough(yard, sizes)], ["00", None, False])
            if wanted:
                self.same(len(standstill(yard, sizes)[1]), wanted + 1)
            else:
                self.fails(errors.TooMany, {"what": "beats", "limit": 4000}, standstill, yard, sizes)
                run = full_run(yard, "00", sizes)
                self.same(len(run), 5462)
                self.assertIs(is_standstill(yard, sizes, ("00", run)), True)


class RoomLists(Cases):
    def test_less_more_and_twice(self):
        for yard, sizes in [(HELD_BY_TWO, (1, 2, 2)), (HOLDS, ()), (ROW, (1,)), (counting(60), (1, 1, 1)), (DOUBLE, (2,))]:
            paper = room_list(yard, sizes)
            for value in (paper, paper[::-1], tuple(paper), paper[1:] + paper[:1]):
                self.assertIs(is_room_list(yard, sizes, value), True)
            for at, rest in few(list(enumerate(paper)), 12):
                self.assertIs(is_room_list(yard, sizes, paper[:at] + paper[at + 1:]), False)
                self.assertIs(is_room_list(yard, sizes, paper + [rest]), False)
            for value in few(wrong_kinds(paper), 60):
                self.assertIs(is_room_list(yard, sizes, value), False)
            self.assertIs(is_room_list(yard, sizes, with_tuples(paper)), True)

    def test_any_value(self):
        for value in odd_values() + [[], (), "", 0, [None], [()], [((0, 0),)], [((0, 0), ("",), "")], [((0, 1), ("",))],
                                     [((0,), ("",))], [((0, 0), ())], [((0, 0), ("", ""))], [[(0, 0), ("",)]]]:
            self.assertIs(is_room_list(ROW, (1,), value), False)
        self.assertIs(is_room_list(ROW, (1,), [((0, 0), ("",))]), True)
        self.assertIs(is_room_list(value=[((0, 0), ("",))], sizes=(1,), yard=ROW), True)
        for rest in [((0, 0), ("0000",)), ((0, 0), ("2",)), ((0, -1), ("",)), ((1, 0), ("",)), ((0, True), ("",))]:
            self.assertIs(is_room_list(ROW, (3,), [((0, 0), ("",)), rest]), False)

    def test_places_where_beats_can_be_done_are_let(self):
        first = ((0, 0), ("",))
        for waiting in ("0", "01", "111"):
            self.assertIs(is_room_list(ROW, (1,), [first, ((0, 0), (waiting,))]), True)
            self.assertIs(is_room_list(ROW, (1,), [((0, 0), (waiting,))]), False)

    def test_places_that_stand_still_are_not(self):
        yard = Yard([COPY, BOTH], [(0, 0, 1, 0), (0, 1, 1, 1)])
        first = ((0, 0), ("", ""))
        self.assertIs(is_room_list(yard, (1, 1), [first]), True)
        self.assertIs(is_room_list(yard, (1, 1), [first, ((0, 0), ("0", ""))]), False)
        # With a place more the sign that waits comes back to where it was.
        pair = [((0, 0), ("0", "")), ((0, 0), ("1", ""))]
        self.assertIs(is_room_list(yard, (2, 1), [first, *pair]), True)
        self.assertIs(is_room_list(yard, (2, 1), [first, *pair[:1]]), False)
        self.assertIs(is_room_list(yard, (2, 1), pair), False)

    def test_of_sizes_that_are_not_enough_there_is_none(self):
        self.assertIs(is_room_list(HELD_BY_TWO, (1, 1, 3), room_list(HELD_BY_TWO, (1, 2, 2))), False)
        self.assertIs(is_room_list(DOUBLE, (1,), [((0, 0), ("",))]), False)
        self.assertIs(is_room_list(DOUBLE, (2,), [((0, 0), ("",))]), True)

    def test_no_beat_lacks_room_though_all_signs_are_taken(self):
        # The first station eats all signs but one, of which the second one gives two: they never have room.
        first = Station(1, 1, [("1", [(("0",), 1, 1)] * 2), ("1", [(("",), 1, 1)] * 2)])
        yard = Yard([first, TWICE, PASS], [(0, 0, 1, 0), (1, 0, 2, 0)])
        places = [((0, 0, 0), ("", "")), ((1, 0, 0), ("0", ""))]
        self.assertIs(is_room_list(yard, (1, 1), places), False)
        self.assertIs(is_room_list(yard, (1, 2), places[:1] + [((1, 0, 0), ("", ""))]), True)
        self.same(standstill(yard, (1, 1)), ("0", [0]))

    def test_more_rests_than_sixty(self):
        yard = counting(64)
        paper = [((0, k % 4, k // 4 % 4, k // 16), ("",) * 3) for k in range(64)]
        self.assertIs(is_room_list(yard, (1, 1, 1), paper), True)
        self.assertIs(is_room_list(yard, (1, 1, 1), paper[:-1]), False)
        self.assertIs(is_room_list(counting(60), (1, 1, 1), paper), True)

    def test_a_run_of_more_than_twenty_thousand_beats(self):
        for times, wanted in [(6, True), (7, False)]:
            yard = fourfold(times)
            self.assertIs(is_room_list(yard, (2,) * (2 * times), [((0,) * (times + 1), ("",) * (2 * times))]), wanted)

    def test_many_yards(self):
        dice = Dice(431)
        counts = [0, 0]
        for _ in range(120):
            yard = some_yard(dice, 3)
            sizes = some_sizes(dice, yard)
            paper = few_rests(yard, sizes)
            value = [rest for rest in paper if dice.below(9)]
            if dice.below(3) == 0:
                value.append((tuple(dice.below(len(station)) for station in yard.stations),
                              tuple(dice.text(2) for _ in yard.pipes)))
            if len(value) < 9:
                wanted = judged(yard, sizes, value)
                counts[wanted] += 1
                self.assertIs(is_room_list(yard, sizes, value), wanted)
                for spoilt in few(wrong_kinds(value), 12):
                    self.assertIs(is_room_list(yard, sizes, spoilt), False)
        self.assertGreater(min(counts), 15)

    def test_errors(self):
        self.fails_on(errors.InvalidSizes, no_sizes(ROW), lambda value: is_room_list(ROW, value, None))
        self.fails_on(errors.InvalidSizes, no_sizes(ROW), lambda value: is_standstill(ROW, value, None))
        self.fails(errors.InvalidSizes, {"value": None}, is_standstill, value=None, sizes=None, yard=ROW)


class Standstills(Cases):
    def test_the_documents_one_and_others(self):
        for value, wanted in [(("00", [0, 1]), True), (("00", (0, 1)), True), (("01", [0, 1]), True), (("000", [0, 1]), True),
                              (("00", [0]), False), (("00", []), False), (("0", [0, 1]), False), (("00", [0, 1, 0]), False),
                              (("00", [1, 0]), False), (("", []), False), (["00", [0, 1]], False), (("00", [0, 1], None), False),
                              (("00",), False), (("00", None), False), (("00", {0: 0, 1: 1}), False), (("00", "01"), False)]:
            self.assertIs(is_standstill(HELD_BY_TWO, (1, 1, 3), value), wanted)
            self.assertIs(is_standstill(HELD_BY_TWO, (1, 2, 2), value), False)
        for value in wrong_kinds(("00", [0, 1])):
            self.assertIs(is_standstill(HELD_BY_TWO, (1, 1, 3), value), False)
        for value in odd_values() + [[], (), "", 0]:
            self.assertIs(is_standstill(HELD_BY_TWO, (1, 1, 3), value), False)

    def test_not_of_the_least_stream_alone(self):
        long = "0" * 1000
        self.assertIs(is_standstill(HELD_BY_TWO, (1, 1, 3), (long, [0, 1])), True)
        self.assertIs(is_standstill(HELD_BY_TWO, (1, 1, 3), (long + "0", [0, 1])), False)
        self.assertIs(is_standstill(sizes=(1,), value=("1", []), yard=DOUBLE), True)

    def test_full_runs_that_end_well_are_none(self):
        for run in slow_full_runs(HELD_BY_TWO, "01", (1, 2, 2), 100):
            self.assertIs(is_standstill(HELD_BY_TWO, (1, 2, 2), ("01", run[0])), False)
        yard = OVERVIEW
        self.assertIs(is_standstill(yard, (1, 1, 1), ("0", full_run(yard, "0", (1, 1, 1)))), False)
        self.assertIs(is_standstill(yard, (1, 1, 1), ("00", full_run(yard, "00", (1, 1, 1)))), True)

    def test_many_yards(self):
        dice = Dice(432)
        found = 0
        for _ in range(80):
            yard = some_yard(dice, 4)
            sizes = some_sizes(dice, yard)
            stream = dice.text(4)
            runs = slow_full_runs(yard, stream, sizes, 300) or []
            for run, state in few(runs, 5):
                stands = slow_lacking(yard, state, sizes) != []
                found += stands
                self.assertIs(is_standstill(yard, sizes, (stream, run)), stands)
                if run:
                    self.assertIs(is_standstill(yard, sizes, (stream, run[:-1])), False)
            told = standstill(yard, sizes)
            if told is not None:
                state = slow_begin(yard, told[0])
                for number in told[1]:
                    state = slow_behind(yard, state, number, sizes)
                self.same(slow_can(yard, state, sizes), [])
                self.assertIs(is_standstill(yard, sizes, told), True)
                for spoilt in few(wrong_kinds(told), 15):
                    self.assertIs(is_standstill(yard, sizes, spoilt), False)
        self.assertGreater(found, 30)


if __name__ == "__main__":
    unittest.main()

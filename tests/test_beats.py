"""[13]: states, beats and sizes: begin_of, can_be_done and done."""

import unittest

from flowyard import errors, runs
from flowyard.runs import begin_of, can_be_done, done
from flowyard.yards import Station, Yard
from helper import (BY_TURNS, COPY, HALF, OVERVIEW, PASS, ROW, TURN, TWICE, UNLIKE, Cases, Dice, no_counts, no_texts,
                    odd_values, slow_behind, slow_begin, slow_can, some_sizes, some_yard)

START = ((0, 0, 0), ("", "", ""), "0110", ("",))
TREE = Yard([COPY, COPY], [(0, 0, 1, 0)], ((0, 0), ("01",)))


class BeginOf(Cases):
    def test_the_beginning(self):
        self.same(begin_of(OVERVIEW, "0110"), START)
        self.same(begin_of(OVERVIEW, ""), ((0, 0, 0), ("", "", ""), "", ("",)))
        self.same(begin_of(TREE, "1"), ((0, 0), ("01",), "1", ("", "", "")))
        self.same(begin_of(Yard([HALF], [], ((1,), ())), "00"), ((1,), (), "00", ("",)))
        self.same(begin_of(stream="1", yard=ROW), begin_of(ROW, "1"))

    def test_streams_of_1000_signs_and_of_1001(self):
        for stream in ["0" * 1000, "10" * 500]:
            self.same(begin_of(ROW, stream), ((0, 0), ("",), stream, ("",)))
        self.fails_on(errors.InvalidStream, ["0" * 1001, "01" * 501, "1" * 2000],
                      lambda value: begin_of(ROW, value))

    def test_no_stream(self):
        self.fails_on(errors.InvalidStream, no_texts(), lambda value: begin_of(ROW, value))


class Beats(Cases):
    def test_the_overview_beat_by_beat(self):
        state = START
        self.same(can_be_done(OVERVIEW, state), [0])
        state = done(OVERVIEW, state, 0)
        self.same(state, ((0, 0, 0), ("0", "0", ""), "110", ("",)))
        self.same(can_be_done(OVERVIEW, state), [0, 1])
        state = done(OVERVIEW, state, 1)
        self.same(state, ((0, 1, 0), ("", "0", ""), "110", ("",)))
        state = done(OVERVIEW, state, 0)
        self.same(state, ((0, 1, 0), ("1", "01", ""), "10", ("",)))
        state = done(OVERVIEW, state, 1)
        self.same(state, ((0, 0, 0), ("", "01", "1"), "10", ("",)))
        self.same(can_be_done(OVERVIEW, state), [0, 2])
        state = done(OVERVIEW, state, 2)
        self.same(state, ((0, 0, 0), ("", "1", ""), "10", ("1",)))

    def test_signs_go_from_the_front_and_come_behind(self):
        state = ((0, 0), ("10",), "01", ("1",))
        self.same(done(ROW, state, 0), ((0, 0), ("101",), "1", ("1",)))
        self.same(done(ROW, state, 1), ((0, 0), ("0",), "01", ("10",)))

    def test_a_row_with_two_signs_and_with_none(self):
        yard = Yard([TWICE, HALF], [(0, 0, 1, 0)])
        self.same(done(yard, ((0, 0), ("0",), "1", ("",)), 0), ((0, 0), ("011",), "", ("",)))
        self.same(done(yard, ((0, 0), ("01",), "1", ("1",)), 1), ((0, 1), ("1",), "1", ("1",)))
        self.same(done(yard, ((0, 1), ("01",), "1", ("1",)), 1), ((0, 0), ("1",), "1", ("10",)))

    def test_goals(self):
        wheel = Station(1, 1, [("1", [(("",), (k + 1) % 4, 1), (("1",), (k + 2) % 4, 9)]) for k in range(4)])
        yard = Yard([wheel], [])
        for k in range(4):
            self.same(done(yard, ((k,), (), "01", ("0",)), 0), (((k + 1) % 4,), (), "1", ("0",)))
            self.same(done(yard, ((k,), (), "10", ("0",)), 0), (((k + 2) % 4,), (), "0", ("01",)))

    def test_the_standing_tells_which_line_is_read(self):
        yard = Yard([COPY, BY_TURNS], [(0, 0, 1, 0), (0, 1, 1, 1)])
        self.same(can_be_done(yard, ((0, 0), ("", "0"), "", ("",))), [])
        self.same(can_be_done(yard, ((0, 1), ("", "0"), "", ("",))), [1])
        self.same(can_be_done(yard, ((0, 0), ("0", ""), "", ("",))), [1])
        self.same(can_be_done(yard, ((0, 1), ("0", ""), "", ("",))), [])
        self.same(done(yard, ((0, 0), ("0", "1"), "", ("",)), 1), ((0, 1), ("", "1"), "", ("0",)))
        self.same(done(yard, ((0, 1), ("0", "1"), "", ("",)), 1), ((0, 0), ("0", ""), "", ("1",)))

    def test_both_lines_are_read_the_first_in_line_first(self):
        told = Station(2, 1, [("12", [(("00",), 0, 1), (("01",), 0, 1), (("10",), 0, 1), (("11",), 0, 1)])])
        straight = Yard([COPY, told], [(0, 0, 1, 0), (0, 1, 1, 1)])
        crossed = Yard([COPY, told], [(0, 0, 1, 1), (0, 1, 1, 0)])
        for one in "01":
            for other in "01":
                state = ((0, 0), (one + "1", other), "", ("",))
                self.same(done(straight, state, 1), ((0, 0), ("1", ""), "", (one + other,)))
                self.same(done(crossed, state, 1), ((0, 0), ("1", ""), "", (other + one,)))
        for contents in [("", ""), ("0", ""), ("", "1"), ("", "11")]:
            self.same(can_be_done(straight, ((0, 0), contents, "", ("",))), [])

    def test_out_lines_and_exits(self):
        state = ((0, 0), ("1",), "01", ("0", "1", "00"))
        self.same(done(TREE, state, 0), ((0, 0), ("10",), "1", ("00", "1", "00")))
        self.same(done(TREE, state, 1), ((0, 0), ("",), "01", ("0", "11", "001")))

    def test_the_entry_can_be_done_only_with_a_rest(self):
        self.same(can_be_done(ROW, ((0, 0), ("",), "", ("",))), [])
        self.same(can_be_done(ROW, ((0, 0), ("",), "0", ("",))), [0])

    def test_a_state_need_not_be_one_that_is_come_to(self):
        state = ((0, 0), ("0" * 1500,), "1" * 1500, ("0110" * 300,))
        self.same(can_be_done(ROW, state), [0, 1])
        self.same(done(ROW, state, 1), ((0, 0), ("0" * 1499,), "1" * 1500, ("0110" * 300 + "1",)))
        self.same(done(ROW, state, 0), ((0, 0), ("0" * 1501,), "1" * 1499, ("0110" * 300,)))

    def test_as_the_slow_reading_tells(self):
        dice = Dice(5)
        for _ in range(300):
            yard = some_yard(dice, 5)
            state = (tuple(dice.below(len(station)) for station in yard.stations),
                     tuple(dice.text(3) for _ in yard.pipes), dice.text(3), tuple(dice.text(2) for _ in yard.exits))
            for sizes in (None, some_sizes(dice, yard), some_sizes(dice, yard)):
                can = slow_can(yard, state, sizes)
                self.same(can_be_done(yard, state, sizes), can)
                for station in range(len(yard)):
                    if station in can:
                        self.same(done(yard, state, station, sizes), slow_behind(yard, state, station, sizes))
                    else:
                        self.fails(errors.CannotBeDone, {"value": station}, done, yard, state, station, sizes)

    def test_begin_of_as_the_slow_reading_tells(self):
        dice = Dice(6)
        for _ in range(50):
            yard = some_yard(dice, 6)
            stream = dice.text(9)
            self.same(begin_of(yard, stream), slow_begin(yard, stream))


class Sizes(Cases):
    def can(self, yard, contents, sizes, wanted):
        state = ((0,) * len(yard), contents, "1", ("",) * len(yard.exits))
        self.same(can_be_done(yard, state, sizes), wanted)
        self.same(can_be_done(yard, state), sorted({0, *wanted}))

    def test_one_sign_has_room_up_to_the_size(self):
        for size in (1, 2, 3):
            for waiting in range(5):
                wanted = ([0] if waiting + 1 <= size else []) + ([1] if waiting else [])
                self.can(ROW, ("0" * waiting,), (size,), wanted)

    def test_two_signs_have_room_up_to_the_size(self):
        yard = Yard([TWICE, PASS], [(0, 0, 1, 0)])
        for size in (1, 2, 3):
            for waiting in range(5):
                wanted = ([0] if waiting + 2 <= size else []) + ([1] if waiting else [])
                self.can(yard, ("0" * waiting,), (size,), wanted)

    def test_each_pipe_has_its_own_size(self):
        yard = Yard([COPY, PASS, TURN], [(0, 1, 1, 0), (0, 0, 2, 0)])
        self.can(yard, ("", ""), (1, 1), [0])
        self.can(yard, ("0", ""), (2, 1), [0, 2])
        self.can(yard, ("0", ""), (1, 2), [2])
        self.can(yard, ("", "0"), (1, 2), [0, 1])
        self.can(yard, ("", "0"), (2, 1), [1])
        self.can(yard, ("00", "0"), (3, 2), [0, 1, 2])
        self.can(yard, ("00", "0"), (2, 3), [1, 2])

    def test_a_pipe_that_is_given_nothing_may_be_full(self):
        yard = Yard([HALF, PASS], [(0, 0, 1, 0)])
        full = ((0, 0), ("111",), "1", ("",))
        self.same(can_be_done(yard, full, (1,)), [0, 1])
        self.same(done(yard, full, 0, (1,)), ((1, 0), ("111",), "", ("",)))
        self.same(can_be_done(yard, ((1, 0), ("111",), "1", ("",)), (3,)), [1])

    def test_the_row_that_would_be_done_decides(self):
        ones = Station(1, 1, [("1", [(("",), 0, 1), (("11",), 0, 1)])])
        yard = Yard([ones, PASS], [(0, 0, 1, 0)])
        self.same(can_be_done(yard, ((0, 0), ("0",), "01", ("",)), (2,)), [0, 1])
        self.same(can_be_done(yard, ((0, 0), ("0",), "10", ("",)), (2,)), [1])
        self.same(can_be_done(yard, ((0, 0), ("0",), "10", ("",)), (3,)), [0, 1])

    def test_what_is_in_it_ahead_of_the_beat_counts(self):
        yard = Yard([COPY, BY_TURNS], [(0, 0, 1, 0), (0, 1, 1, 1)])
        state = ((0, 0), ("1", "1"), "0", ("",))
        self.same(can_be_done(yard, state, (1, 1)), [1])
        self.same(can_be_done(yard, done(yard, state, 1, (1, 1)), (1, 1)), [1])
        self.same(can_be_done(yard, ((0, 0), ("", ""), "0", ("",)), (1, 1)), [0])

    def test_exits_have_room_for_all(self):
        state = ((0, 0), ("1",), "", ("0" * 50,))
        self.same(done(ROW, state, 1, (1,)), ((0, 0), ("",), "", ("0" * 51,)))

    def test_sizes_of_a_yard_without_pipes(self):
        yard = Yard([TWICE], [])
        self.same(can_be_done(yard, ((0,), (), "1", ("0000",)), ()), [0])
        self.same(done(yard, ((0,), (), "1", ("0000",)), 0, ()), ((0,), (), "", ("000011",)))


class Interface(Cases):
    def test_by_name(self):
        state = ((0, 0), ("0",), "1", ("",))
        self.same(can_be_done(sizes=(1,), state=state, yard=ROW), [1])
        self.same(can_be_done(state=state, yard=ROW), [0, 1])
        self.same(done(station=1, sizes=(1,), state=state, yard=ROW), ((0, 0), ("",), "1", ("1",)))
        self.same(done(ROW, state, 1, None), done(ROW, state, 1))

    def test_returned_lists_are_new(self):
        state = begin_of(ROW, "1")
        can_be_done(ROW, state).append("more")
        self.same(can_be_done(ROW, state), [0])
        self.same(state, ((0, 0), ("",), "1", ("",)))
        self.same(ROW.begin, ((0, 0), ("",)))

    def test_functions_are_defined_in_the_file(self):
        for name in ("begin_of", "can_be_done", "done", "is_run", "state_behind", "is_full", "full_run", "end", "flows"):
            self.assertEqual(getattr(runs, name).__module__, "flowyard.runs")
            self.assertEqual(getattr(runs, name).__name__, name)


class Wrong(Cases):
    def wrong_state(self, yard, state):
        with self.subTest(state=repr(state)):
            self.fails(errors.InvalidState, {"value": state}, can_be_done, yard, state)
            self.fails(errors.InvalidState, {"value": state}, done, yard, state, 0)

    def test_no_tuple_of_four(self):
        for state in odd_values() + [0, "", [], (), list(START), START[:3], START + ((),), START[1:], START[::-1]]:
            self.wrong_state(OVERVIEW, state)

    def test_standings(self):
        for standings in odd_values() + [0, "000", [0, 0, 0], (), (0, 0), (0, 0, 0, 0), (1, 0, 0), (0, 2, 0)]:
            self.wrong_state(OVERVIEW, (standings,) + START[1:])
        for standing in no_counts() + [2, 3, 4, 10 ** 29]:
            self.wrong_state(OVERVIEW, ((0, standing, 0),) + START[1:])

    def test_contents(self):
        for contents in odd_values() + [0, "", "000", ["", "", ""], (), ("", ""), ("", "", "", "")]:
            self.wrong_state(OVERVIEW, (START[0], contents) + START[2:])
        for text in no_texts():
            self.wrong_state(OVERVIEW, (START[0], ("", "", text)) + START[2:])
            self.wrong_state(OVERVIEW, (START[0], (text, "", "")) + START[2:])

    def test_rest(self):
        for rest in no_texts():
            self.wrong_state(OVERVIEW, START[:2] + (rest, ("",)))

    def test_flows(self):
        for flows in odd_values() + [0, "", "0", [""], (), ("", ""), ("", "", "")]:
            self.wrong_state(OVERVIEW, START[:3] + (flows,))
        for text in no_texts():
            self.wrong_state(OVERVIEW, START[:3] + ((text,),))
            self.wrong_state(TREE, ((0, 0), ("",), "", ("", "", text)))

    def wrong_sizes(self, yard, sizes):
        with self.subTest(sizes=repr(sizes)):
            state = begin_of(yard, "1")
            self.fails(errors.InvalidSizes, {"value": sizes}, can_be_done, yard, state, sizes)
            self.fails(errors.InvalidSizes, {"value": sizes}, done, yard, state, 0, sizes)

    def test_sizes(self):
        for sizes in odd_values() + [0, 1, "", "111", [1, 1, 1], [], (), (1, 1), (1, 1, 1, 1)]:
            if sizes is not None:
                self.wrong_sizes(OVERVIEW, sizes)
        for size in no_counts() + [0, 4, 5, 10 ** 29]:
            for sizes in [(size, 1, 1), (1, size, 1), (3, 3, size)]:
                self.wrong_sizes(OVERVIEW, sizes)
        for sizes in [[], (1,), 0, "", False]:
            self.wrong_sizes(Yard([PASS], []), sizes)

    def test_stations(self):
        state = ((0, 0), ("0",), "1", ("",))
        for station in no_counts() + [2, 3, 12, 10 ** 29]:
            self.fails(errors.InvalidStation, {"value": station}, done, ROW, state, station)

    def test_beats_that_cannot_be_done(self):
        self.fails(errors.CannotBeDone, {"value": 1}, done, ROW, begin_of(ROW, "1"), 1)
        self.fails(errors.CannotBeDone, {"value": 0}, done, ROW, begin_of(ROW, ""), 0)
        self.fails(errors.CannotBeDone, {"value": 0}, done, ROW, ((0, 0), ("0",), "1", ("",)), 0, (1,))
        self.fails(errors.CannotBeDone, {"value": 2}, done, OVERVIEW, ((0, 0, 0), ("0", "0", ""), "", ("",)), 2)

    def test_sequence_of_the_errors(self):
        state = begin_of(ROW, "")
        self.fails(errors.InvalidState, {"value": None}, can_be_done, ROW, None, 0)
        self.fails(errors.InvalidState, {"value": state[:3]}, done, ROW, state[:3], 9, 0)
        self.fails(errors.InvalidSizes, {"value": 0}, done, ROW, state, 9, 0)
        self.fails(errors.InvalidSizes, {"value": (4,)}, done, ROW, state, 0, (4,))
        self.fails(errors.InvalidStation, {"value": True}, done, ROW, begin_of(ROW, "1"), True, (1,))
        self.fails(errors.CannotBeDone, {"value": 0}, done, ROW, state, 0, (1,))


if __name__ == "__main__":
    unittest.main()

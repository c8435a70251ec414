"""[14] and the guarantee ONE END: runs, full runs, the END and the flows."""

import unittest

from flowyard import errors
from flowyard.runs import begin_of, end, flows, full_run, is_full, is_run, state_behind
from flowyard.yards import Station, Yard
from helper import (COPY, EATS, HALF, OVERVIEW, PASS, ROW, TURN, TWICE, UNLIKE, Cases, Dice, no_counts, no_texts,
                    odd_values, slow_full_run, slow_full_runs, some_sizes, some_yard)

MANY = {"what": "beats", "limit": 20000}


def doubled(*gives):
    """A station with one in-line that gives each sign on its out-lines so many times."""
    return Station(1, len(gives), [("1", [(tuple(sign * k for k in gives), 0, 1) for sign in "01"])])


# Of n signs there are n beats of station 0, then 2n, 4n, 8n, 4n and n: 20 n in all.
TWENTYFOLD = Yard([doubled(2, 1), doubled(2, 2), doubled(2), doubled(2), doubled(1), doubled(1)],
                  [(0, 0, 1, 0), (1, 0, 2, 0), (2, 0, 3, 0), (1, 1, 4, 0), (0, 1, 5, 0)])
ONE_MORE = TWENTYFOLD.begun(((0,) * 6, ("", "0", "", "", "")))


class Runs(Cases):
    def test_lists_of_beats_that_can_be_done(self):
        for run in [[], [0], [0, 0], [0, 1], [0, 0, 1], [0, 1, 0], [0, 0, 1, 1], [0, 1, 0, 1]]:
            for value in (run, tuple(run)):
                self.assertIs(is_run(ROW, "01", value), True)
                self.assertIs(is_run(ROW, "01", value, None), True)
        for run in [[1], [0, 1, 1], [0, 0, 0], [0, 0, 1, 1, 1], [1, 0, 0, 1], [0, 1, 0, 1, 0]]:
            for value in (run, tuple(run)):
                self.assertIs(is_run(ROW, "01", value), False)

    def test_with_sizes(self):
        self.assertIs(is_run(ROW, "01", [0, 1, 0, 1], (1,)), True)
        self.assertIs(is_run(ROW, "01", [0, 0, 1, 1], (1,)), False)
        self.assertIs(is_run(ROW, "01", [0, 0, 1, 1], (2,)), True)
        self.assertIs(is_run(ROW, "0101", [0, 0, 0, 0], (3,)), False)
        self.assertIs(is_run(ROW, "0101", [0, 0, 0, 1, 0], (3,)), True)

    def test_from_the_beginning_that_is_told(self):
        yard = ROW.begun(((0, 0), ("11",)))
        self.assertIs(is_run(yard, "", [1, 1]), True)
        self.assertIs(is_run(yard, "", [1, 1, 1]), False)
        self.assertIs(is_run(yard, "0", [0, 1, 1, 1]), True)
        self.assertIs(is_run(yard, "0", [0], (2,)), False)
        self.assertIs(is_run(yard, "0", [1, 0], (2,)), True)

    def test_any_value_is_asked(self):
        for value in odd_values() + [0, 1, "", "0", "01", {0: 0}, {0}]:
            self.assertIs(is_run(ROW, "01", value), False)
            self.assertIs(is_run(ROW, "01", value, (1,)), False)
        for value in no_counts() + [2, 3, 10 ** 29]:
            self.assertIs(is_run(ROW, "01", [value]), False)
            self.assertIs(is_run(ROW, "01", [0, value]), False)

    def test_bools_are_no_stations(self):
        for value in [[False], [0, True], [0, False], (False,), [0, 0, True]]:
            self.assertIs(is_run(ROW, "01", value), False)


class Behind(Cases):
    def test_state_behind(self):
        self.same(state_behind(ROW, "01", []), ((0, 0), ("",), "01", ("",)))
        self.same(state_behind(ROW, "01", [0]), ((0, 0), ("1",), "1", ("",)))
        self.same(state_behind(ROW, "01", [0, 1]), ((0, 0), ("",), "1", ("0",)))
        self.same(state_behind(ROW, "01", (0, 0)), ((0, 0), ("10",), "", ("",)))
        self.same(state_behind(ROW, "01", [0, 0, 1], (2,)), ((0, 0), ("0",), "", ("0",)))
        self.same(state_behind(OVERVIEW, "0110", [0, 0, 1, 1, 2]), ((0, 0, 0), ("", "1", ""), "10", ("1",)))
        self.same(state_behind(OVERVIEW.begun(((0, 1, 0), ("1", "", "0"))), "", [1]),
                  ((0, 0, 0), ("", "", "01"), "", ("",)))

    def test_is_full(self):
        for run in [[0, 0, 1, 1], [0, 1, 0, 1], (0, 1, 0, 1)]:
            self.assertIs(is_full(ROW, "01", run), True)
        for run in [[], [0], [0, 1], [0, 0], [0, 0, 1], [0, 1, 0]]:
            self.assertIs(is_full(ROW, "01", run), False)
        self.assertIs(is_full(ROW, "", []), True)
        self.assertIs(is_full(ROW.begun(((0, 0), ("0",))), "", []), False)
        self.assertIs(is_full(OVERVIEW, "01", [0, 0, 1, 1, 2]), True)
        self.assertIs(is_full(OVERVIEW, "01", [0, 0, 1, 1]), False)

    def test_is_full_with_sizes(self):
        self.assertIs(is_full(OVERVIEW, "00", [0, 1], (1, 1, 3)), True)
        self.assertIs(is_full(OVERVIEW, "00", [0, 1]), False)
        self.assertIs(is_full(OVERVIEW, "00", [0, 1], (1, 2, 3)), False)
        self.assertIs(is_full(OVERVIEW, "00", [0], (1, 1, 3)), False)

    def wrong_run(self, position, run, stream="01", sizes=None):
        with self.subTest(run=repr(run)):
            for call in (state_behind, is_full):
                self.fails(errors.InvalidRun, {"position": position}, call, ROW, stream, run, sizes)

    def test_no_list(self):
        for value in odd_values() + [0, 1, "", "0", "01", {0: 0}]:
            self.wrong_run(None, value)

    def test_the_first_wrong_element(self):
        for value in no_counts() + [2, 3, 10 ** 29]:
            self.wrong_run(0, [value])
            self.wrong_run(0, (value, 0))
            self.wrong_run(2, [0, 0, value, 1])
            self.wrong_run(1, [0, value, None])
        self.wrong_run(0, [1, 0, 0])
        self.wrong_run(2, [0, 1, 1, "x"])
        self.wrong_run(2, [0, 0, 0])
        self.wrong_run(4, [0, 0, 1, 1, 1])
        self.wrong_run(0, [False, 0])
        self.wrong_run(1, [0, True])

    def test_the_first_wrong_element_with_sizes(self):
        self.wrong_run(1, [0, 0, 1, 1], "01", (1,))
        self.wrong_run(3, [0, 1, 0, 0], "0101", (1,))
        self.wrong_run(3, [0, 0, 0, 0], "0101", (3,))
        self.wrong_run(0, [0], "", (3,))

    def test_what_was_passed_stays(self):
        run = [0, 0, 1]
        state_behind(ROW, "01", run)
        is_full(ROW, "01", run)
        is_run(ROW, "01", run)
        self.assertEqual(run, [0, 0, 1])
        self.same(ROW, Yard([TURN, TURN], [(0, 0, 1, 0)]))


class FullRuns(Cases):
    def test_the_documents_yards(self):
        self.same([flows(ROW, "01"), full_run(ROW, "01"), end(ROW, "01"), full_run(ROW, "01", (1,))],
                  [["01"], [0, 0, 1, 1], ((0, 0), ("",), "", ("01",)), [0, 1, 0, 1]])
        self.same(flows(OVERVIEW, "0110"), ["11"])
        self.same(end(OVERVIEW, "0110"), ((0, 0, 0), ("", "10", ""), "", ("11",)))
        self.same(full_run(OVERVIEW, "0110"), [0, 0, 0, 0, 1, 1, 1, 1, 2, 2])

    def test_empty_streams(self):
        self.same([full_run(ROW, ""), end(ROW, ""), flows(ROW, "")], [[], ((0, 0), ("",), "", ("",)), [""]])
        yard = ROW.begun(((0, 0), ("101",)))
        self.same([full_run(yard, ""), flows(yard, "")], [[1, 1, 1], ["010"]])

    def test_flows_of_all_exits(self):
        yard = Yard([COPY, COPY], [(0, 0, 1, 0)], ((0, 0), ("11",)))
        self.same(flows(yard, "01"), ["01", "1101", "1101"])
        self.same(flows(Yard([COPY, HALF, TURN], [(0, 0, 1, 0), (0, 1, 2, 0)]), "0110"), ["10", "1001"])
        self.same(flows(Yard([EATS], []), "0110"), [""])
        self.same(flows(Yard([TWICE], []), "01"), ["0011"])

    def test_with_sizes_it_goes_on_where_there_is_room(self):
        self.same(full_run(ROW, "0101", (2,)), [0, 0, 1, 0, 1, 0, 1, 1])
        self.same(full_run(ROW, "0101", (3,)), [0, 0, 0, 1, 0, 1, 1, 1])
        self.same(full_run(OVERVIEW, "00", (1, 1, 3)), [0, 1])
        self.same(end(OVERVIEW, "00", (1, 1, 3)), ((0, 1, 0), ("", "0", ""), "0", ("",)))
        self.same(end(OVERVIEW, "00", (1, 2, 3)), ((0, 0, 0), ("", "0", ""), "", ("0",)))
        self.same(full_run(Yard([TWICE, PASS], [(0, 0, 1, 0)]), "1", (1,)), [])

    def test_room_that_comes_free_far_ahead(self):
        yard = Yard([PASS] * 4, [(0, 0, 1, 0), (1, 0, 2, 0), (2, 0, 3, 0)])
        self.same(full_run(yard, "011", (1, 1, 1)), [0, 1, 0, 2, 1, 0, 3, 2, 1, 3, 2, 3])

    def test_sizes_none_is_as_none_told(self):
        self.same(full_run(ROW, "01", None), full_run(ROW, "01"))
        self.same(end(ROW, "01", None), end(ROW, "01"))
        self.same(full_run(Yard([TURN], []), "01", ()), [0, 0])

    def test_by_name(self):
        self.same(full_run(sizes=(1,), stream="01", yard=ROW), [0, 1, 0, 1])
        self.same(end(sizes=(1,), stream="01", yard=ROW), end(ROW, "01"))
        self.same(flows(stream="01", yard=ROW), ["01"])
        self.assertIs(is_run(sizes=(1,), value=[0, 1], stream="01", yard=ROW), True)
        self.assertIs(is_full(sizes=(1,), run=[0, 1], stream="01", yard=ROW), False)
        self.same(state_behind(sizes=(1,), run=[0, 1], stream="01", yard=ROW), ((0, 0), ("",), "1", ("0",)))

    def test_returned_lists_are_new_and_calls_repeat(self):
        for call in (flows, full_run):
            first = call(ROW, "01")
            kept = list(first)
            first.append("more")
            self.same(call(ROW, "01"), kept)
        self.same(end(ROW, "01"), end(ROW, "01"))


class OneEnd(Cases):
    """All full runs of small streams, found one by one."""

    def each(self, seed, many, most_stations, most_runs):
        dice = Dice(seed)
        found = 0
        while found < many:
            yard = some_yard(dice, most_stations)
            stream = dice.text(3)
            sizes = None if dice.below(2) else some_sizes(dice, yard)
            all_runs = slow_full_runs(yard, stream, sizes, most_runs)
            if all_runs is not None:
                found += 1
                yield yard, stream, sizes, [run for run, _ in all_runs], [state for _, state in all_runs]

    def test_full_run_is_the_first_one_and_all_have_one_end(self):
        for yard, stream, sizes, all_runs, states in self.each(1, 250, 4, 400):
            self.same(full_run(yard, stream, sizes), all_runs[0])
            self.same(end(yard, stream, sizes), states[0])
            for run, state in zip(all_runs, states):
                self.assertEqual(sorted(run), sorted(all_runs[0]))
                self.assertEqual(state, states[0])
                self.assertIs(is_full(yard, stream, run, sizes), True)
                self.same(state_behind(yard, stream, run, sizes), states[0])
            if sizes is None:
                self.same(flows(yard, stream), list(states[0][3]))

    def test_just_the_beginnings_of_full_runs_are_runs(self):
        for yard, stream, sizes, all_runs, _ in self.each(2, 60, 3, 40):
            beginnings = {tuple(run[:k]) for run in all_runs for k in range(len(run) + 1)}
            for beginning in beginnings:
                self.assertIs(is_run(yard, stream, list(beginning), sizes), True)
                self.assertIs(is_full(yard, stream, list(beginning), sizes), list(beginning) in all_runs)
                for station in range(len(yard)):
                    longer = beginning + (station,)
                    self.assertIs(is_run(yard, stream, longer, sizes), longer in beginnings)

    def test_exchanges_of_neighbours_lead_from_each_to_each(self):
        for yard, stream, sizes, all_runs, _ in self.each(3, 80, 4, 150):
            met = {tuple(all_runs[0])}
            waiting = [all_runs[0]]
            while waiting:
                run = waiting.pop()
                for k in range(len(run) - 1):
                    swapped = run[:k] + [run[k + 1], run[k]] + run[k + 2:]
                    if tuple(swapped) not in met and is_run(yard, stream, swapped, sizes):
                        met.add(tuple(swapped))
                        waiting.append(swapped)
            self.assertEqual(sorted(met), [tuple(run) for run in all_runs])

    def test_longer_streams_come_to_one_end_whatever_is_done_first(self):
        dice = Dice(4)
        for _ in range(60):
            yard = some_yard(dice, 6)
            stream = dice.text(12)
            for sizes in (None, some_sizes(dice, yard)):
                found = end(yard, stream, sizes)
                for pick in (min, max, dice.one_of):
                    run, state = slow_full_run(yard, stream, sizes, pick)
                    self.same(found, state)
                    self.assertIs(is_full(yard, stream, run, sizes), True)
                self.same(full_run(yard, stream, sizes), slow_full_run(yard, stream, sizes, min)[0])


class Many(Cases):
    def test_20000_beats(self):
        stream = "01" * 500
        for sizes in (None, (3,) * 5, (2,) * 5):
            run = full_run(TWENTYFOLD, stream, sizes)
            self.assertEqual([run.count(k) for k in range(6)], [1000, 2000, 4000, 8000, 4000, 1000])
            state = end(TWENTYFOLD, stream, sizes)
            self.same(state[:3], ((0,) * 6, ("",) * 5, ""))
            self.assertEqual([len(text) for text in state[3]], [16000, 4000, 1000])
            self.same(state_behind(TWENTYFOLD, stream, run, sizes), state)
            self.assertIs(is_full(TWENTYFOLD, stream, run, sizes), True)
            self.assertIs(is_full(TWENTYFOLD, stream, run[:-1], sizes), False)
            self.assertIs(is_run(TWENTYFOLD, stream, run, sizes), True)
            self.same(list(state[3]), flows(TWENTYFOLD, stream))

    def test_more_beats(self):
        stream = "01" * 500
        for sizes in (None, (3,) * 5, (2,) * 5):
            for call in (full_run, end):
                self.fails(errors.TooMany, MANY, call, ONE_MORE, stream, sizes)
        self.fails(errors.TooMany, MANY, flows, ONE_MORE, stream)
        self.assertEqual(len(full_run(ONE_MORE, stream[1:])), 20000 - 20 + 1)

    def test_far_more_beats(self):
        yard = Yard([TWICE] * 12, [(k, 0, k + 1, 0) for k in range(11)])
        for call in (full_run, end, flows):
            self.fails(errors.TooMany, MANY, call, yard, "1" * 1000)
        self.fails(errors.TooMany, MANY, end, yard, "1" * 1000, (2,) * 11)
        self.same(end(yard, "1" * 1000, (1,) * 11), ((0,) * 12, ("",) * 11, "1" * 1000, ("",)))
        self.assertIs(is_run(yard, "1" * 1000, [0] * 1000), True)
        self.assertIs(is_full(yard, "1" * 1000, [0] * 1000), False)
        self.assertEqual(flows(yard, "1" * 4), ["1" * 4 * 4096])

    def test_1000_signs(self):
        self.same(flows(ROW, "0110" * 250), ["0110" * 250])
        self.assertEqual(len(full_run(ROW, "1" * 1000)), 2000)
        self.same(begin_of(ROW, "1" * 1000)[2], "1" * 1000)


class Wrong(Cases):
    def each_call(self, stream, sizes):
        return [(is_run, (ROW, stream, None, sizes)), (state_behind, (ROW, stream, None, sizes)),
                (is_full, (ROW, stream, None, sizes)), (full_run, (ROW, stream, sizes)), (end, (ROW, stream, sizes))]

    def test_streams(self):
        for stream in no_texts() + ["0" * 1001, "1" * 2000]:
            for call, given in self.each_call(stream, 0):
                self.fails(errors.InvalidStream, {"value": stream}, call, *given)
            self.fails(errors.InvalidStream, {"value": stream}, flows, ROW, stream)

    def test_sizes(self):
        wrong = [value for value in odd_values() if value is not None]
        for sizes in wrong + [0, 1, "", "1", [], (), [1], (1, 1), (0,), (4,), (-1,), (True,), ("1",), (None,)]:
            for call, given in self.each_call("01", sizes):
                self.fails(errors.InvalidSizes, {"value": sizes}, call, *given)

    def test_the_run_is_told_behind_the_sizes(self):
        for call in (state_behind, is_full):
            self.fails(errors.InvalidSizes, {"value": (4,)}, call, ROW, "01", [1], (4,))
            self.fails(errors.InvalidStream, {"value": "2"}, call, ROW, "2", [1], (1,))
            self.fails(errors.InvalidRun, {"position": 0}, call, ROW, "01", [1], (1,))

    def test_too_many_is_told_last(self):
        long = "0" * 1001
        for call in (full_run, end):
            self.fails(errors.InvalidStream, {"value": long}, call, ONE_MORE, long, None)
            self.fails(errors.InvalidSizes, {"value": (1,)}, call, ONE_MORE, "0" * 1000, (1,))
        self.fails(errors.InvalidStream, {"value": long}, flows, ONE_MORE, long)


if __name__ == "__main__":
    unittest.main()

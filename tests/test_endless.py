"""[35]: flows of endless streams, told as short as can be, and settled rests."""

import unittest

from flowyard import errors
from flowyard.forever import endless_flow, settled_flow
from flowyard.yards import Station, Yard, joined
from helper import HALF, OVERVIEW, PASS, SPLIT, TURN, TWICE, Cases, Dice, no_counts, no_texts, some_yard
from slow_rests import Steps, endless_streams, small_held, told
from some_held import some_held
from some_yards import BEGUN, COPIES, EATING, FORK, HOLDS, LATE, ONES, STOPS, counting, doubling

class EndlessFlows(Cases):
    def test_the_documents_yard(self):
        self.same(endless_flow(HOLDS, 0, "0", "10"), ("", "01"))

    def test_told_as_short_as_can_be(self):
        for begin, lap, flow in [("", "0", ("", "0")), ("", "0101", ("", "01")), ("01", "01", ("", "01")),
                                 ("1", "01", ("", "10")), ("0", "10", ("", "01")), ("11", "01", ("1", "10")),
                                 ("0" * 9, "0", ("", "0")), ("0001", "1", ("000", "1")), ("010", "110110", ("0", "101")),
                                 ("1", "0110110", ("1", "0110110")), ("10110", "110", ("", "101")),
                                 ("0110", "0", ("011", "0"))]:
            self.same(endless_flow(COPIES, 0, begin, lap), flow)
            self.same(endless_flow(yard=COPIES, outlet=0, begin=begin, lap=lap * 3), flow)

    def test_finite_flows(self):
        self.same(endless_flow(EATING, 0, "0101", "1"), ("", ""))
        for begin, lap, flow in [("", "1", ("", "")), ("000", "1", ("000", "")), ("00", "0001", ("00000", "")),
                                 ("", "0", ("", "0")), ("1", "0", ("", ""))]:
            self.same(endless_flow(STOPS, 0, begin, lap), flow)

    def test_what_was_there_is_in_it(self):
        for begin, lap, flow in [("", "0", ("011", "0")), ("", "011", ("", "011")), ("", "1", ("0", "1")),
                                 ("0", "110", ("", "011"))]:
            self.same(endless_flow(BEGUN, 0, begin, lap), flow)
        self.same(endless_flow(joined(BEGUN, 0, EATING), 0, "", "1"), ("", ""))
        self.same(endless_flow(joined(STOPS, 0, BEGUN), 0, "", "1"), ("011", ""))

    def test_laps_that_come_round_after_several_times(self):
        self.same(endless_flow(HOLDS, 0, "", "011"), ("", "011"))
        self.same(endless_flow(Yard([HALF], []), 0, "", "011"), ("", "101"))
        self.same(endless_flow(LATE, 0, "", "1"), ("0", "1"))
        self.same(endless_flow(counting(60), 0, "", "01"), ("", ""))
        third = joined(counting(16), 0, EATING)
        self.same(endless_flow(third, 0, "1", "0"), ("", ""))

    def test_at_the_told_exit(self):
        yard = Yard([SPLIT, TWICE, TURN], [(0, 0, 1, 0), (0, 1, 2, 0)])
        self.same([endless_flow(yard, outlet, "", "0110") for outlet in (0, 1)], [("", "0011"), ("", "01")])
        self.same(endless_flow(Yard([SPLIT], []), 1, "0", "01"), ("", "0"))

    def test_of_any_length(self):
        begin, lap = "0" * 1999 + "1", "01" * 999 + "11"
        self.same(endless_flow(COPIES, 0, begin, lap), (begin, lap) if begin[-1] != lap[-1] else (begin[:-1], "1" + lap[:-1]))
        self.same(endless_flow(doubling(4), 0, "", "01" * 1000), ("", "0" * 16 + "1" * 16))
        self.same(endless_flow(COPIES, 0, "01" * 1000, "01" * 1000), ("", "01"))
        self.same(endless_flow(COPIES, 0, "", ("0" * 999 + "1") * 2), ("", "0" * 999 + "1"))

    def test_many_yards(self):
        dice = Dice(351)
        for _ in range(60):
            yard = some_held(dice)
            steps = Steps(yard)
            for _ in range(6):
                begin, lap = dice.text(4), dice.text(3) + dice.one_of("01")
                found = endless_flow(yard, 0, begin, lap)
                self.same(found, steps.endless_flow(0, begin, lap))
                _, flow = steps.flow_from(0, 0, begin + lap * 20)
                flow = steps.first[0] + flow
                self.assertEqual(told(*found, len(flow)), flow)

    def test_several_exits(self):
        dice = Dice(352)
        many = 0
        while many < 12:
            yard = some_yard(dice, 2)
            if len(yard.exits) > 1 and small_held(yard, 5):
                many += 1
                steps = Steps(yard)
                for outlet in range(len(yard.exits)):
                    for begin, lap in [("", "0"), ("1", "01"), ("01", "1")]:
                        self.same(endless_flow(yard, outlet, begin, lap), steps.endless_flow(outlet, begin, lap))


class Settled(Cases):
    def test_the_documents_yards(self):
        self.same([settled_flow(ONES, 0, 0), settled_flow(COPIES, 0, 0)], [("", "1"), None])

    def test_all_silent(self):
        self.same(settled_flow(EATING, 0, 0), ("", ""))
        self.same([settled_flow(counting(60), 0, rest) for rest in (0, 59)], [("", ""), ("", "")])

    def test_behind_the_rest_alone(self):
        yard = Yard([ONES.stations[0], PASS], [(0, 0, 1, 0)], ((0, 0), ("001",)))
        self.same([settled_flow(yard, 0, 0), endless_flow(yard, 0, "", "0")], [("", "1"), ("00", "1")])

    def test_some_settled_and_some_not(self):
        self.same([settled_flow(STOPS, 0, rest) for rest in (0, 1)], [None, ("", "")])
        self.same([settled_flow(FORK, 0, rest) for rest in range(4)], [None, ("", "01"), ("", ""), ("", "10")])
        self.same([settled_flow(HOLDS, 0, rest) for rest in range(3)], [None] * 3)

    def test_a_flow_that_can_stop_is_not_settled(self):
        # All that is given is 1, but 0 may come for ever, of which nothing is given.
        yard = Yard([Station(1, 1, [("1", [(("",), 0, 1), (("1",), 0, 1)])])], [])
        self.same(settled_flow(yard, 0, 0), None)
        # Here each 0 is followed by a sign that gives 1.
        yard = Yard([Station(1, 1, [("1", [(("",), 1, 1), (("1",), 0, 1)]), ("1", [(("1",), 0, 1)] * 2)])], [])
        self.same([settled_flow(yard, 0, rest) for rest in (0, 1)], [("", "1"), ("", "1")])

    def test_finite_settled_flows(self):
        # Of any first sign 01, of any two signs 01, and nothing then.
        yard = Yard([Station(1, 1, [("1", [(("01",), 2, 1), (("0",), 1, 1)]), ("1", [(("1",), 2, 1)] * 2),
                                    ("1", [(("",), 2, 1)] * 2)])], [])
        self.same([settled_flow(yard, 0, rest) for rest in range(3)], [("01", ""), ("", ""), ("1", "")])
        # If the first 1 may come as late as one likes, 01 need not be given.
        yard = Yard([Station(1, 1, [("1", [(("",), 0, 1), (("01",), 1, 1)]), ("1", [(("",), 1, 1)] * 2)])], [])
        self.same([settled_flow(yard, 0, rest) for rest in range(2)], [None, ("", "")])

    def test_at_the_told_exit(self):
        yard = Yard([SPLIT, ONES.stations[0]], [(0, 1, 1, 0)])
        self.same([[settled_flow(yard, outlet, rest) for rest in (0, 1)] for outlet in (0, 1)],
                  [[None, None], [("", "1"), ("", "1")]])
        self.same(settled_flow(yard=yard, outlet=1, rest=0), ("", "1"))

    def test_many_yards(self):
        dice = Dice(353)
        settled = 0
        for _ in range(60):
            yard = some_held(dice)
            steps = Steps(yard)
            if len(steps.rests) > 4:
                continue
            for rest in range(len(steps.rests)):
                found = {steps.endless_flow(0, begin, lap, rest) for begin, lap in endless_streams(2, 2)}
                wanted = found.pop() if len(found) == 1 else None
                if wanted is not None:
                    found = {steps.endless_flow(0, begin, lap, rest) for begin, lap in endless_streams(3, 4)}
                    wanted = found.pop() if len(found) == 1 else None
                self.same(settled_flow(yard, 0, rest), wanted)
                settled += wanted is not None
        self.assertGreater(settled, 20)


class Errors(Cases):
    def test_exits(self):
        for call, more in [(endless_flow, ("", "0")), (endless_flow, (None, None)), (settled_flow, (None,))]:
            for yard in (COPIES, OVERVIEW, counting(61)):
                self.fails_on(errors.InvalidExit, no_counts() + [1, 2, 10 ** 29], lambda value: call(yard, value, *more))
        self.fails_on(errors.InvalidExit, [2], lambda value: endless_flow(Yard([SPLIT], []), value, "", "0"))

    def test_begins_and_laps(self):
        self.fails_on(errors.InvalidText, no_texts(), lambda value: endless_flow(OVERVIEW, 0, value, ""))
        self.fails_on(errors.InvalidLap, no_texts() + [""], lambda value: endless_flow(OVERVIEW, 0, "", value))
        self.fails(errors.InvalidText, {"value": 0}, endless_flow, yard=COPIES, outlet=0, begin=0, lap="")
        self.fails(errors.InvalidLap, {"value": ""}, endless_flow, yard=COPIES, outlet=0, begin="", lap="")

    def test_looking_through_ahead_of_rests(self):
        for yard, error, attributes in [(OVERVIEW, errors.NotHeld, {"stream": "0" * 7}),
                                        (counting(61), errors.TooMany, {"what": "rests", "limit": 60}),
                                        (doubling(5), errors.TooMany, {"what": "signs", "limit": 16})]:
            self.fails(error, attributes, endless_flow, yard, 0, "", "0")
            for rest in (0, 1, None, -1):
                self.fails(error, attributes, settled_flow, yard, 0, rest)

    def test_rests(self):
        self.fails_on(errors.InvalidRest, no_counts() + [3, 10 ** 29], lambda value: settled_flow(HOLDS, 0, value))
        self.fails(errors.InvalidRest, {"value": False}, settled_flow, rest=False, outlet=0, yard=COPIES)


if __name__ == "__main__":
    unittest.main()

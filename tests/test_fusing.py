"""[24]: pipes that join closely, joint standings, and stations that are fused."""

import unittest
from itertools import product

from flowyard import errors
from flowyard.compiling import compiled
from flowyard.fusing import can_fuse, fused, fused_at, joint_standings
from flowyard.runs import flows
from flowyard.yards import Station, Yard
from helper import (COPY, EATS, HALF, OVERVIEW, PASS, ROW, SPLIT, TURN, TWICE, UNLIKE, Cases, Dice, odd_values,
                    slow_behind, some_yard)
from some_terms import UNLIKE_TERM, chain_of, slow_flow, some_term

PIPE = (0, 0, 1, 0)
EVEN = compiled(("count", ("change", "in")))
NO_PIPES = [(0, 0, 1), (0, 0, 1, 0, 0), [0, 0, 1, 0], (0, 0, 1, 1), (0, 1, 1, 0), (1, 0, 2, 0), (0, 0, 2, 0), (1, 0, 1, 0),
            (False, 0, 1, 0), (0, False, 1, 0), (0, 0, True, 0), (0, 0, 1, False), ("0", 0, 1, 0), (0, 0, 1, None),
            (0, [0], 1, 0), (-1, 0, 1, 0), (0, 0, 10 ** 29, 0), (), [], 0, 1, "0010", ((0, 0), (1, 0))]


def round_of(many, gives=("0", "1"), ticks=1):
    """A station that goes through so many standings, one for each sign."""
    return Station(1, 1, [("1", [((text,), (at + 1) % many, ticks) for text in gives]) for at in range(many)])


def pair(first, second, begin=None):
    return Yard([first, second], [PIPE], begin)


def some_quick(dice, texts):
    """A yard of any stations, of which none takes long, with one of the texts in each pipe."""
    yard = some_yard(dice, 5)
    stations = [Station(station.ins, station.outs, [(reads, [(gives, goal, 1 + ticks // 4) for gives, goal, ticks in rows])
                                                    for reads, rows in station.standings()])
                for station in yard.stations]
    return Yard(stations, yard.pipes, (yard.begin[0], tuple(dice.one_of(texts) for _ in yard.pipes)))


def slow_joint(yard, pipe):
    """The joint standings with their rows, each walked in the yard itself; None unless joined closely."""
    first, _, second, _ = pipe
    at = yard.pipes.index(pipe)
    if (yard.stations[first].outs, yard.stations[second].ins, yard.begin[1][at]) != (1, 1, ""):
        return None
    found = {(yard.begin[0][first], yard.begin[0][second]): 0}
    rows = []
    for standings in iter(lambda: list(found)[len(rows):][:1], []):
        reads, told = yard.stations[first].standings()[standings[0][0]]
        rows.append((reads, []))
        for signs in product("01", repeat=len(reads)):
            gives, goal, ticks = slow_row(yard, pipe, standings[0], reads, "".join(signs))
            rows[-1][1].append((gives, found.setdefault(goal, len(found)), ticks))
    return list(found), rows


def slow_row(yard, pipe, standings, reads, signs):
    first, _, second, _ = pipe
    at = yard.pipes.index(pipe)
    stands = list(yard.begin[0])
    stands[first], stands[second] = standings
    lines = {(first, int(digit) - 1): sign for digit, sign in zip(reads, signs)}
    state = (tuple(stands), tuple(lines.get(each[2:], "") for each in yard.pipes), lines.get((0, 0), ""),
             ("",) * len(yard.exits))
    ticks = yard.stations[first].row(state[0][first], signs)[2]
    state = slow_behind(yard, state, first, None)
    while state[1][at]:
        ticks += yard.stations[second].row(state[0][second], state[1][at][0])[2]
        state = slow_behind(yard, state, second, None)
    given = dict(zip([each[:2] for each in yard.pipes], state[1])) | dict(zip(yard.exits, state[3]))
    gives = tuple(given[(second, line)] for line in range(yard.stations[second].outs))
    return gives, (state[0][first], state[0][second]), ticks


def slow_fused(yard, pipe):
    """The yard with the pipe fused; None if it cannot be."""
    joint = slow_joint(yard, pipe)
    if joint is None or len(joint[0]) > 4:
        return None
    for _, rows in joint[1]:
        if any(ticks > 9 or max(map(len, gives)) > 2 for gives, _, ticks in rows):
            return None
    first, _, second, _ = pipe
    stations = yard.stations
    one = Station(stations[first].ins, stations[second].outs, joint[1])
    kept = [number for number in range(len(yard)) if number != first]
    new = {number: place for place, number in enumerate(kept)} | {first: kept.index(second)}
    contents = {(new[each[0]], each[1], new[each[2]], each[3]): text
                for each, text in zip(yard.pipes, yard.begin[1]) if each != pipe}
    return Yard([one if number == second else stations[number] for number in kept], sorted(contents),
                (tuple(0 if number == second else yard.begin[0][number] for number in kept),
                 tuple(contents[each] for each in sorted(contents))))


class Joint(Cases):
    def test_the_documents_yards(self):
        self.same([joint_standings(EVEN, PIPE), fused(EVEN).stations], [
            [(0, 0), (1, 1)],
            [Station(1, 1, [("1", [(("0",), 0, 2), (("1",), 1, 2)]), ("1", [(("0",), 0, 2), (("1",), 1, 2)])])]])
        yard = compiled(UNLIKE_TERM)
        self.assertIs(can_fuse(yard, (1, 0, 2, 0)), False)

    def test_numbered_as_they_are_come_to(self):
        self.same(joint_standings(pair(HALF, HALF), PIPE), [(0, 0), (1, 0), (0, 1), (1, 1)])
        self.same(joint_standings(pair(HALF, HALF, ((1, 1), ("",))), PIPE), [(1, 1), (0, 0), (1, 0), (0, 1)])
        self.same(joint_standings(pair(HALF, HALF, ((0, 1), ("",))), PIPE), [(0, 1), (1, 1), (0, 0), (1, 0)])
        turns = Station(1, 1, [("1", [(("",), 2, 1), (("",), 1, 1)]), ("1", [(("",), 0, 1), (("0",), 3, 1)]),
                               ("1", [(("",), 2, 1), (("0",), 0, 1)]), ("1", [(("",), 3, 1), (("",), 3, 1)])])
        self.same(joint_standings(pair(turns, PASS), PIPE), [(0, 0), (2, 0), (1, 0), (3, 0)])

    def test_only_those_that_are_come_to(self):
        self.same(joint_standings(pair(round_of(3), round_of(3)), PIPE), [(0, 0), (1, 1), (2, 2)])
        self.same(joint_standings(pair(round_of(2), round_of(4)), PIPE), [(0, 0), (1, 1), (0, 2), (1, 3)])
        self.same(joint_standings(pair(PASS, HALF), PIPE), [(0, 0), (0, 1)])
        self.same(joint_standings(pair(EATS, HALF), PIPE), [(0, 0)])
        self.same(joint_standings(pair(TWICE, HALF), PIPE), [(0, 0)])

    def test_more_than_four(self):
        yard = pair(round_of(3), round_of(4))
        self.same(joint_standings(yard, PIPE), [(at % 3, at % 4) for at in range(12)])
        five = pair(Station(1, 1, [("1", [(("",), 1, 1), (("",), 1, 1)]), ("1", [(("0",), 1, 1), (("0",), 1, 1)])]),
                    round_of(4))
        self.same(joint_standings(five, PIPE), [(0, 0), (1, 0), (1, 1), (1, 2), (1, 3)])
        four = pair(five.stations[0], round_of(3))
        self.same(joint_standings(four, PIPE), [(0, 0), (1, 0), (1, 1), (1, 2)])
        self.same([can_fuse(four, PIPE), can_fuse(five, PIPE), can_fuse(yard, PIPE)], [True, False, False])
        self.fails(errors.CannotFuse, {"value": PIPE}, fused_at, five, PIPE)

    def test_none_unless_joined_closely(self):
        for yard, pipe in [(OVERVIEW, PIPE), (OVERVIEW, (0, 1, 2, 1)), (OVERVIEW, (1, 0, 2, 0)),
                           (ROW.begun(((0, 0), ("0",))), PIPE), (pair(HALF, HALF, ((0, 0), ("101",))), PIPE)]:
            self.assertIs(joint_standings(yard, pipe), None)
            self.assertIs(can_fuse(yard, pipe), False)
            self.fails(errors.CannotFuse, {"value": pipe}, fused_at, yard, pipe)

    def test_a_first_station_with_two_in_lines(self):
        yard = Yard([COPY, UNLIKE, HALF], [PIPE, (0, 1, 1, 1), (1, 0, 2, 0)])
        self.same(joint_standings(yard, (1, 0, 2, 0)), [(0, 0), (0, 1)])
        self.same(fused_at(yard, (1, 0, 2, 0)), Yard([COPY, Station(2, 1, [
            ("12", [(("",), 1, 2)] * 4), ("12", [(("0",), 0, 2), (("1",), 0, 2), (("1",), 0, 2), (("0",), 0, 2)]),
        ])], [PIPE, (0, 1, 1, 1)]))

    def test_a_second_station_with_two_out_lines(self):
        yard = Yard([TWICE, SPLIT], [PIPE])
        self.same(joint_standings(yard, PIPE), [(0, 0)])
        self.same(fused_at(yard, PIPE), Yard([Station(1, 2, [("1", [(("0", "0"), 0, 3), (("1", "1"), 0, 3)])])], []))


class Limits(Cases):
    def test_two_signs_and_three(self):
        self.same(fused(pair(TWICE, PASS)), Yard([Station(1, 1, [("1", [(("00",), 0, 3), (("11",), 0, 3)])])], []))
        self.same(fused(pair(PASS, TWICE)), Yard([Station(1, 1, [("1", [(("00",), 0, 2), (("11",), 0, 2)])])], []))
        self.assertIs(can_fuse(pair(TWICE, TWICE), PIPE), False)
        three = Station(1, 1, [("1", [(("0",), 1, 1), (("11",), 0, 1)]), ("1", [(("00",), 0, 1), (("1",), 1, 1)])])
        self.assertIs(can_fuse(pair(TWICE, three), PIPE), False)
        self.assertIs(can_fuse(pair(TWICE, Yard([COPY], []).stations[0]), PIPE), True)
        self.assertIs(can_fuse(pair(TWICE, Station(1, 2, [("1", [(("00", ""), 0, 1), (("", ""), 0, 1)])])), PIPE), False)
        self.assertIs(can_fuse(pair(TWICE, Station(1, 2, [("1", [(("", ""), 0, 1), (("0", "01"), 0, 1)])])), PIPE), False)

    def test_ticks_together(self):
        def lasting(ticks, text="0"):
            return Station(1, 1, [("1", [((text,), 0, ticks), (("",), 0, 1)])])
        self.same(fused(pair(lasting(4), lasting(5))),
                  Yard([Station(1, 1, [("1", [(("0",), 0, 9), (("",), 0, 1)])])], []))
        self.assertIs(can_fuse(pair(lasting(4), lasting(6)), PIPE), False)
        self.assertIs(can_fuse(pair(lasting(5), lasting(5)), PIPE), False)
        self.assertIs(can_fuse(pair(lasting(9), lasting(1)), PIPE), False)
        self.assertIs(can_fuse(pair(lasting(9, ""), lasting(9)), PIPE), True)
        self.assertIs(can_fuse(pair(lasting(5, "00"), lasting(2)), PIPE), True)
        self.assertIs(can_fuse(pair(lasting(6, "00"), lasting(2)), PIPE), False)
        self.assertIs(can_fuse(pair(lasting(5, "01"), lasting(3)), PIPE), True)
        self.assertIs(can_fuse(pair(lasting(5, "01"), lasting(4)), PIPE), False)

    def test_only_rows_that_are_done(self):
        far = Station(1, 1, [("1", [(("0",), 0, 1), (("1",), 0, 1)]), ("1", [(("00",), 1, 9), (("11",), 1, 9)])])
        self.assertIs(can_fuse(pair(far, TWICE), PIPE), True)
        self.assertIs(can_fuse(pair(far, TWICE, ((1, 0), ("",))), PIPE), False)
        self.assertIs(can_fuse(pair(PASS, far), PIPE), True)
        self.assertIs(can_fuse(pair(PASS, far, ((0, 1), ("",))), PIPE), False)


class Fused(Cases):
    def test_numbers_go_down_by_one(self):
        yard = Yard([COPY, TURN, HALF, PASS, UNLIKE],
                    [PIPE, (0, 1, 2, 0), (1, 0, 3, 0), (3, 0, 4, 0), (2, 0, 4, 1)],
                    ((0, 0, 1, 0, 0), ("01", "0", "", "1", "")))
        self.same(yard.pipes, [PIPE, (0, 1, 2, 0), (1, 0, 3, 0), (2, 0, 4, 1), (3, 0, 4, 0)])
        turned = Station(1, 1, [("1", [(("1",), 0, 2), (("0",), 0, 2)])])
        self.same(fused_at(yard, (1, 0, 3, 0)),
                  Yard([COPY, HALF, turned, UNLIKE], [(0, 0, 2, 0), (0, 1, 1, 0), (1, 0, 3, 1), (2, 0, 3, 0)],
                       ((0, 1, 0, 0), ("01", "0", "1", ""))))
        self.same(fused(yard), fused_at(yard, (1, 0, 3, 0)))

    def test_it_begins_at_its_standing_0(self):
        yard = Yard([HALF, HALF, PASS], [PIPE, (1, 0, 2, 0)], ((1, 1, 0), ("", "10")))
        found = fused_at(yard, PIPE)
        self.same(found.begin, ((0, 0), ("10",)))
        self.same(found.stations[0], Station(1, 1, [
            ("1", [(("0",), 1, 2), (("1",), 1, 2)]), ("1", [(("",), 2, 1), (("",), 2, 1)]),
            ("1", [(("",), 3, 2), (("",), 3, 2)]), ("1", [(("",), 0, 1), (("",), 0, 1)])]))
        for stream in ["", "0", "01", "0110", "11010"]:
            self.same(flows(found, stream), flows(yard, stream))

    def test_exits_stay_in_their_sequence(self):
        yard = Yard([COPY, TURN, SPLIT, HALF], [PIPE, (0, 1, 2, 0), (1, 0, 3, 0)])
        found = fused_at(yard, (1, 0, 3, 0))
        self.same(found.exits, [(1, 0), (1, 1), (2, 0)])
        self.same(flows(found, "011010"), flows(yard, "011010"))

    def test_the_first_pipe_that_can_be_fused(self):
        self.same(fused(ROW), Yard([Station(1, 1, [("1", [(("0",), 0, 2), (("1",), 0, 2)])])], []))
        rows = Yard([TWICE, TWICE, HALF, HALF], [PIPE, (1, 0, 2, 0), (2, 0, 3, 0)])
        # First the pipe from 1 to 2; then from 0 to what came of both, and at last on to the last one.
        self.same([can_fuse(rows, pipe) for pipe in rows.pipes], [False, True, True])
        self.same(fused(rows), Yard([Station(1, 1, [("1", [(("0",), 0, 9), (("1",), 0, 9)])])], []))
        slow = Yard([PASS, round_of(1, ticks=6), round_of(1, ticks=3)], [PIPE, (1, 0, 2, 0)])
        self.same(fused(slow), Yard([round_of(1, ticks=7), round_of(1, ticks=3)], [PIPE]))
        self.same(can_fuse(slow, (1, 0, 2, 0)), True)

    def test_nothing_can_be_fused(self):
        for yard in [OVERVIEW, Yard([PASS], []), pair(TWICE, TWICE), ROW.begun(((0, 0), ("0",)))]:
            self.same(fused(yard), yard)

    def test_many_yards_as_they_are_read_slowly(self):
        dice = Dice(51)
        seen = {True: 0, False: 0}
        for _ in range(600):
            yard = some_quick(dice, ["", "", "", "0"])
            for pipe in yard.pipes:
                joint = slow_joint(yard, pipe)
                self.same(joint_standings(yard, pipe), None if joint is None else joint[0])
                wanted = slow_fused(yard, pipe)
                self.assertIs(can_fuse(yard, pipe), wanted is not None)
                seen[wanted is not None] += 1
                if wanted is None:
                    self.fails(errors.CannotFuse, {"value": pipe}, fused_at, yard, pipe)
                else:
                    self.same(fused_at(yard, pipe), wanted)
        self.assertGreater(seen[True], 80)

    def test_flows_stay_for_all_short_streams(self):
        dice = Dice(52)
        kept = 0
        while kept < 80:
            yard = some_quick(dice, ["", "", "", "10"])
            found = fused(yard)
            kept += found != yard
            self.assertNotIn(True, [can_fuse(found, pipe) for pipe in found.pipes])
            for length in range(5):
                for signs in product("01", repeat=length):
                    self.same(flows(found, "".join(signs)), flows(yard, "".join(signs)))

    def test_compiled_terms(self):
        dice = Dice(53)
        fewer = 0
        for _ in range(150):
            term = some_term(dice, 9)
            yard = compiled(term)
            found = fused(yard)
            fewer += len(found) < len(yard)
            step = yard
            while pipes := [pipe for pipe in step.pipes if slow_fused(step, pipe) is not None]:
                step = slow_fused(step, pipes[0])
            self.same(found, step)
            for stream in ["", "0", "1", "0110", "1101001"]:
                self.same(flows(found, stream), [slow_flow(term, stream)])
        self.assertGreater(fewer, 50)

    def test_long_rows(self):
        found = fused(compiled(chain_of(["not"] * 8)))
        self.same(found, Yard([round_of(1, ticks=8)], []))
        nine = compiled(("then", chain_of(["not"] * 3), chain_of(["not"] * 3)))
        self.same(fused(nine), Yard([round_of(1, ticks=6)], []))


class Errors(Cases):
    def test_pipes(self):
        for value in odd_values() + NO_PIPES:
            for call in (can_fuse, joint_standings, fused_at):
                self.fails(errors.InvalidPipe, {"value": value}, call, ROW, value)
        for call in (can_fuse, joint_standings, fused_at):
            self.fails(errors.InvalidPipe, {"value": PIPE}, call, Yard([PASS], []), PIPE)
            self.fails(errors.InvalidPipe, {"value": (0, 0, 2, 0)}, call, OVERVIEW, (0, 0, 2, 0))

    def test_by_name(self):
        self.same([can_fuse(pipe=PIPE, yard=EVEN), joint_standings(pipe=PIPE, yard=EVEN)], [True, [(0, 0), (1, 1)]])
        self.same(fused_at(pipe=PIPE, yard=EVEN), fused(yard=EVEN))

    def test_what_was_returned_may_be_changed(self):
        found = joint_standings(EVEN, PIPE)
        found.clear()
        self.same(joint_standings(EVEN, PIPE), [(0, 0), (1, 1)])
        fused_at(EVEN, PIPE).stations.clear()
        self.same(EVEN, compiled(("count", ("change", "in"))))


if __name__ == "__main__":
    unittest.main()

"""[2]: a call that is repeated returns an equal result, whatever the caller did to what was passed and returned."""

import inspect
import unittest

from flowyard import (alarms, claims, clock, desk, forever, pace, patches, rests, rings, room, same, swaps, taps,
                      texts, watch,
                      wishes)
from flowyard.yards import Station, Yard
from helper import Cases
from some_taps import HELD, giving
from some_yards import COPIES, HELD_BY_TWO, HOLDS, LATE, SLOW, TWO
from test_lots import TURNS
from test_patches import BASE, TOLD, WIDE
from test_swaps import BASE as PARITIES
from test_watch import HALVES

RING = ("ring", [(2, 0), (1, 1), (0, 1)])
WISH = wishes.Wish([(0, 1), (0, 1)], [[0, 1]])
TABLE = (("",), [[(0, ("0",)), (0, ("1",))]])
HEIGHTS = {(0, ("free", 0)): 0}
NODES = {(0, 0): 0, (0, 1): 0, (1, 0): 1}
SURE = ("sure", HELD, 0, [1], "1")

CALLS = [
    (rests.rests, (HOLDS,)), (rests.rest_behind, (HOLDS, "101")), (rests.step, (HOLDS, 1, "0")),
    (rests.stream_to, (HOLDS, 2)),
    (rests.is_held, (HELD_BY_TWO, 1)), (rests.overfilling, (HELD_BY_TWO, 0)),
    (rests.is_held_paper, (COPIES, 0, [((0,), ())])), (rests.is_overfilling, (HELD_BY_TWO, 0, "0")),
    (same.are_same, (COPIES, HOLDS)), (same.parting, (COPIES, LATE)), (same.same_paper, (HOLDS, HOLDS)),
    (same.is_same_paper, (COPIES, COPIES, [(0, 0)])), (same.is_parting, (COPIES, LATE, "1")),
    (same.least_table, (HOLDS,)), (same.classes, (HOLDS,)), (same.is_table_of, (COPIES, TABLE)),
    (forever.endless_flow, (HOLDS, 0, "0", "10")), (forever.settled_flow, (COPIES, 0, 0)),
    (forever.are_same_for_ever, (COPIES, 0, HOLDS, 0)), (forever.ahead_list, (COPIES, 0, HOLDS, 0)),
    (forever.is_ahead_list, (COPIES, 0, COPIES, 0, [(0, 0, "", "")])), (forever.endless_parting, (COPIES, 0, LATE, 0)),
    (forever.is_endless_parting, (COPIES, 0, LATE, 0, ("", "01"))),
    (room.lacking, (TWO, ((0, 0), ("1",), "0", ("",)), (2,))), (room.are_enough_for, (HELD_BY_TWO, (1, 1, 3), "00")),
    (room.are_enough, (HELD_BY_TWO, (1, 2, 2))), (room.room_list, (HELD_BY_TWO, (1, 2, 2))),
    (room.still_stream, (HELD_BY_TWO, (1, 1, 3))), (room.standstill, (HELD_BY_TWO, (1, 1, 3))),
    (room.is_room_list, (COPIES, (), [((0,), ())])), (room.is_standstill, (HELD_BY_TWO, (1, 1, 3), ("00", [0, 1]))),
    (room.least_sizes, (HELD_BY_TWO,)), (room.spare, (HELD_BY_TWO, (1, 3, 2))),
    (room.fullest, (HELD_BY_TWO, (1, 2, 2))),
    (rings.waits_for, (HELD_BY_TWO, (1, 1, 3), "00", (0, 1))),
    (rings.stays_for, (HELD_BY_TWO, (1, 1, 3), "00", (0, 1))),
    (rings.reason, (HELD_BY_TWO, (1, 1, 3), "00")), (rings.is_reason, (HELD_BY_TWO, (1, 1, 3), "00", RING)),
    (rings.least_for, (HELD_BY_TWO, "00")),
    (clock.times, (SLOW, "101", 2)), (clock.over_at, (SLOW, "101", 2)), (clock.given_at, (SLOW, "101", 2, 0)),
    (clock.is_timing, (SLOW, "1", 2, {(0, 0): 1})), (clock.lateness, (HELD_BY_TWO, "0", 2, (1, 2, 2))),
    (clock.links, (HELD_BY_TWO, "0", "1", (1, 2, 2))),
    (pace.delay, (TWO, 2)), (pace.heights, (TWO, 2)), (pace.are_heights, (SLOW, 3, 3, HEIGHTS)),
    (pace.late_stream, (TWO, 2)),
    (pace.is_later, (SLOW, 3, 2, "01")), (pace.pace, (TWO,)), (pace.slowest, (TWO,)),
    (pace.ring_mean, (SLOW, ("", "10", [("free", 0)] * 3))), (pace.scaled_heights, (TWO,)),
    (pace.are_scaled, (SLOW, HEIGHTS)), (pace.keeping_sizes, (TWO,)),
    (wishes.watching_station, (WISH, [1])), (WISH.goals, ()), (WISH.good, ()), (WISH.lots, ()), (WISH.goes, (0, "01")),
    (WISH.passed, (0, "01")), (WISH.last_lot, ("", "01")),
    (watch.is_live, (HALVES, 0)), (watch.ranks, (HALVES, 0)), (watch.are_ranks, (HALVES, 0, [1, 0])),
    (watch.silent_stream, (BASE, 0)),
    (watch.is_silent_stream, (HALVES, 0, ("", "0"))), (watch.nodes, (HALVES, 0, WISH)),
    (watch.passed_lots, (HALVES, 0, WISH)),
    (watch.witness, (HALVES, 0, WISH, [0, 1])), (watch.bars, (TURNS, 0, WISH, [1])),
    (watch.is_witness, (HALVES, 0, WISH, [1], ("", "01"))),
    (watch.are_bars, (TURNS, 0, WISH, [1], NODES)), (watch.is_kept, (TURNS, 0, WISH)),
    (watch.kept_paper, (TURNS, 0, WISH)),
    (watch.breaker, (COPIES, 0, WISH)), (watch.is_kept_paper, (TURNS, 0, WISH, watch.kept_paper(TURNS, 0, WISH))),
    (watch.is_breaker, (COPIES, 0, WISH, ("", "0"))), (watch.gap, (TURNS, 0, WISH, [1])),
    (watch.gap_heights, (TURNS, 0, WISH, [1])),
    (watch.are_gap_heights, (TURNS, 0, WISH, [1], 1, NODES)),
    (taps.is_part, ("01", "001")), (taps.heard_of, (HELD, 0, "01", "0")), (taps.can_be_heard, (HELD, 0, "01")),
    (taps.first_stream, (HELD, 0, "01")), (taps.view, (HELD, 0, "1")), (taps.rests_behind, (HELD, 0, "0")),
    (taps.picture, (giving("01"), 0)),
    (taps.unheard, (giving("01"), 0)), (taps.heard_apart, (HELD, 0, COPIES, 0)), (taps.twins, (HELD, 0, HELD, 0)),
    (taps.are_twins, (COPIES, 0, COPIES, 0, [(0, 0)])),
    (alarms.is_sure, (HELD, 0, [1], "1")), (alarms.unsure_stream, (HELD, 0, [1], "0")),
    (alarms.is_unsure, (HELD, 0, [1], "0", "00")),
    (alarms.sure_paper, (HELD, 0, [1], "1")),
    (alarms.is_sure_paper, (HELD, 0, [1], "1", alarms.sure_paper(HELD, 0, [1], "1"))),
    (alarms.alarms, (HELD, 0, [1])), (alarms.alarm_paper, (HELD, 0, [1], "1")),
    (alarms.is_alarm_paper, (HELD, 0, [1], "1", alarms.alarm_paper(HELD, 0, [1], "1"))),
    (alarms.rings_at, (HELD, 0, [1], "01")),
    (swaps.exchanged, (PARITIES, 0, WIDE, 1)), (swaps.swapped_end, (PARITIES, 0, WIDE, "01", 1, 2)),
    (swaps.moments, (PARITIES, 0, 1)),
    (swaps.images, (PARITIES, 0, WIDE)), (swaps.is_kept, (PARITIES, 0, WIDE, 0, 2)),
    (swaps.kept_paper, (PARITIES, 0, WIDE, 0, 2)),
    (swaps.is_kept_paper, (PARITIES, 0, WIDE, 0, 2, swaps.kept_paper(PARITIES, 0, WIDE, 0, 2))),
    (swaps.least_break, (PARITIES, 0, WIDE, 0, 1)), (swaps.is_break, (PARITIES, 0, WIDE, 0, 1, ("0", 0))),
    (patches.patched, (BASE, TOLD)), (patches.word, (BASE, TOLD, [0])), (patches.shown_by, (BASE, TOLD, [1])),
    (patches.least_changing, (BASE, TOLD)), (patches.greatest_keeping, (BASE, TOLD)),
    (patches.overfilling, (BASE, TOLD)),
    (patches.merged, (BASE, TOLD[:1], TOLD[1:])), (patches.kept_exits, (BASE, TOLD)),
    (patches.lost_exits, (BASE, TOLD[:1], TOLD[:1])),
    (texts.written, (TABLE,)), (texts.written, (HELD_BY_TWO,)), (texts.read_station, (texts.written(WIDE),)),
    (texts.read_yard, (texts.written(TWO),)), (texts.read_table, (texts.written(TABLE),)),
    (texts.read_term, ("half(in)\n",)),
    (claims.is_claim, (SURE,)), (claims.is_true, (SURE,)), (claims.contrary, (SURE,)), (claims.paper_of, (SURE,)),
    (claims.is_paper, (SURE, alarms.sure_paper(HELD, 0, [1], "1"))),
    (claims.paper_of, (("barred", TURNS, 0, WISH, [1]),)),
    (desk.tried, (desk.Desk(TWO), lambda held: held.do_all("come 01", "finish", "flows", "over"))),
]


def emptied(value):
    """Take all out of the lists and dicts of a value that was returned."""
    if isinstance(value, (list, tuple, dict)):
        for part in list(value.values()) if isinstance(value, dict) else list(value):
            emptied(part)
    if isinstance(value, (list, dict)):
        value.clear()


class Again(Cases):
    def test_the_same_call_again(self):
        for call, given in CALLS:
            before = repr(given)
            found = call(*given)
            told = repr(found)
            self.assertEqual(repr(given), before, call)
            emptied(found)
            self.assertEqual(repr(call(*given)), told, call)
            self.assertEqual(repr(given), before, call)

    def test_the_same_call_by_names(self):
        for call, given in CALLS:
            names = list(inspect.signature(call).parameters)[:len(given)]
            told = dict(reversed(list(zip(names, given))))
            if not hasattr(call, "__self__"):
                self.assertEqual(repr(call(**told)), repr(call(*given)), call)

    def test_keys_of_returned_dicts_are_sorted(self):
        for call, given in CALLS:
            found = call(*given)
            if isinstance(found, dict):
                self.assertEqual(list(found), sorted(found), call)

    def test_bools_are_bools(self):
        for call, given in CALLS:
            name = call.__name__
            if name.startswith(("is_", "are_", "can_", "heard_of")):
                self.assertIsInstance(call(*given), bool, name)

    def test_yards_made_anew_are_the_same_to_all(self):
        stations = HELD_BY_TWO.stations
        again = Yard([Station(station.ins, station.outs, station.standings()) for station in stations],
                     HELD_BY_TWO.pipes[::-1], HELD_BY_TWO.begin)
        self.assertEqual(again, HELD_BY_TWO)
        for call, given in CALLS:
            if given and given[0] is HELD_BY_TWO:
                self.assertEqual(repr(call(again, *given[1:])), repr(call(*given)), call)


if __name__ == "__main__":
    unittest.main()

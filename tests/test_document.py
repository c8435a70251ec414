"""The document's examples, one behind another, and the example of README.md."""

import doctest
import unittest
from pathlib import Path

from helper import Cases

README = Path(__file__).resolve().parent.parent / "README.md"


class Examples(Cases):
    def test_the_document(self):
        from flowyard.needs import exchanges, how_many_full, must_be_ahead, needs
        from flowyard.runs import end, flows, full_run
        from flowyard.yards import Station, Yard
        turn = Station(1, 1, [("1", [(("1",), 0, 1), (("0",), 0, 1)])])
        row = Yard([turn, turn], [(0, 0, 1, 0)])
        self.same([flows(row, "01"), full_run(row, "01"), end(row, "01"), full_run(row, "01", (1,))],
                  [["01"], [0, 0, 1, 1], ((0, 0), ("",), "", ("01",)), [0, 1, 0, 1]])
        self.same([how_many_full(row, "01"), exchanges(row, "01", [0, 0, 1, 1], [0, 1, 0, 1]), needs(row, "01", (1, 1)),
                   must_be_ahead(row, "01", (0, 1), (1, 0))], [2, [1], [(0, 1), (1, 0)], False])

    def test_terms(self):
        from flowyard.terms import flow_of, is_even, is_term, plain, put_in, slope
        unlike = ("by", "0110", ("half", "in"), "in")
        self.same([flow_of(unlike, "0110"), flow_of(("late", "1", ("count", "in")), "0110"),
                   flow_of(("then", ("twice", "in"), ("change", "in")), "10")], ["11", "1010", "1010"])
        self.same([flow_of(("keep", "in", ("not", "in")), "0110"), slope(unlike), is_even(unlike),
                   is_term(("by", "01", "in", "in"))], ["00", (1, 2), False, False])
        self.same([put_in(("keep", "in", ("then", "in", ("half", "in"))), ("not", "in")),
                   plain(("then", ("twice", "in"), unlike))],
                  [("keep", ("not", "in"), ("then", ("not", "in"), ("half", "in"))),
                   ("by", "0110", ("half", ("twice", "in")), ("twice", "in"))])

    def test_compiled_and_fused(self):
        from flowyard.compiling import compiled, station_for
        from flowyard.fusing import can_fuse, fused, joint_standings
        from flowyard.runs import flows
        yard = compiled(("by", "0110", ("half", "in"), "in"))
        self.same([len(yard), yard.pipes, flows(yard, "0110"), can_fuse(yard, (1, 0, 2, 0))],
                  [3, [(0, 0, 1, 0), (0, 1, 2, 1), (1, 0, 2, 0)], ["11"], False])
        self.assertEqual(repr(station_for(("half", "in"))),
                         "Station(1, 1, [('1', [(('',), 1, 1), (('',), 1, 1)]), "
                         "('1', [(('0',), 0, 1), (('1',), 0, 1)])])")
        even = compiled(("count", ("change", "in")))
        self.assertEqual(repr([joint_standings(even, (0, 0, 1, 0)), fused(even).stations]),
                         "[[(0, 0), (1, 1)], [Station(1, 1, [('1', [(('0',), 0, 2), (('1',), 1, 2)]), "
                         "('1', [(('0',), 0, 2), (('1',), 1, 2)])])]]")

    def test_rests_same_and_for_ever(self):
        from flowyard.forever import are_same_for_ever, endless_flow, is_ahead_list, settled_flow
        from flowyard.rests import is_held, is_held_paper, rest_behind, rests, step
        from flowyard.same import are_same, classes, is_same_paper, is_table_of, least_table, parting
        from flowyard.yards import Station, Yard
        copy = Yard([Station(1, 1, [("1", [(("0",), 0, 1), (("1",), 0, 1)])])], [])
        slow = Yard([Station(1, 1, [("1", [(("",), 1, 1), (("",), 2, 1)]), ("1", [(("00",), 0, 1), (("01",), 0, 1)]),
                                    ("1", [(("10",), 0, 1), (("11",), 0, 1)])])], [])
        self.same([rests(slow), rest_behind(slow, "101"), step(slow, 2, "1"), is_held(slow, 0),
                   is_held_paper(copy, 0, [((0,), ())])],
                  [[((0,), ()), ((1,), ()), ((2,), ())], 2, (0, ("11",)), True, True])
        self.same([are_same(copy, slow), parting(copy, slow), classes(slow), is_same_paper(copy, copy, [(0, 0)])],
                  [False, "0", [0, 1, 2], True])
        twice = (("",), [[(1, ("0",)), (0, ("1",))], [(1, ("0",)), (0, ("1",))]])
        self.same([least_table(copy), is_table_of(copy, twice)], [(("",), [[(0, ("0",)), (0, ("1",))]]), True])
        self.same([are_same_for_ever(copy, 0, slow, 0),
                   is_ahead_list(copy, 0, slow, 0, [(0, 0, "", ""), (0, 1, "0", ""), (0, 2, "1", "")])], [True, True])
        ones = Yard([Station(1, 1, [("1", [(("1",), 0, 1), (("11",), 0, 1)])])], [])
        self.same([endless_flow(slow, 0, "0", "10"), settled_flow(ones, 0, 0), settled_flow(copy, 0, 0),
                   are_same_for_ever(ones, 0, copy, 0)], [("", "01"), ("", "1"), None, False])

    def test_room_and_rings(self):
        from flowyard.rings import is_reason, least_for, stays_for, waits_for
        from flowyard.room import are_enough, fullest, least_sizes, room_list, spare, standstill, still_stream
        from flowyard.yards import Station, Yard
        copy = Station(1, 2, [("1", [(("0", "0"), 0, 1), (("1", "1"), 0, 1)])])
        hold = Station(1, 1, [("1", [(("",), 1, 1), (("",), 2, 1)]), ("1", [(("00",), 0, 1), (("01",), 0, 1)]),
                              ("1", [(("10",), 0, 1), (("11",), 0, 1)])])
        unlike = Station(2, 1, [("12", [(("0",), 0, 1), (("1",), 0, 1), (("1",), 0, 1), (("0",), 0, 1)])])
        yard = Yard([copy, hold, unlike], [(0, 0, 1, 0), (0, 1, 2, 0), (1, 0, 2, 1)])
        self.same([least_sizes(yard), are_enough(yard, (1, 2, 2)), spare(yard, (1, 3, 2)), fullest(yard, (1, 2, 2))],
                  [[(1, 2, 2)], True, [1], (1, 2, 2)])
        self.same(room_list(yard, (1, 2, 2)),
                  [((0, 0, 0), ("", "", "")), ((0, 1, 0), ("", "0", "")), ((0, 2, 0), ("", "1", ""))])
        self.same([still_stream(yard, (1, 1, 3)), standstill(yard, (1, 1, 3)), least_for(yard, "0")],
                  ["00", ("00", [0, 1]), [(1, 1, 1)]])
        self.same([waits_for(yard, (1, 1, 3), "00", (0, 1)), stays_for(yard, (1, 1, 3), "00", (0, 1))],
                  [[(0, 0), (1, 0), (2, 0)], []])
        self.same(is_reason(yard, (1, 1, 3), "00", ("ring", [(2, 0), (1, 1), (0, 1)])), True)

    def test_clock_and_pace(self):
        from flowyard.clock import lateness, links, over_at, times
        from flowyard.pace import delay, keeping_sizes, late_stream, pace, ring_mean
        from flowyard.yards import Station, Yard
        slow = Yard([Station(1, 1, [("1", [(("0",), 0, 1), (("1",), 0, 3)])])], [])
        self.same(times(slow, "101", 2), [(0, 3, (0, 0)), (3, 4, (0, 1)), (4, 7, (0, 2))])
        self.same([over_at(slow, "101", 0), lateness(slow, "10", 2), links(slow, "", "1")],
                  [7, {("free", 0): 0}, [(None, ("free", 0), 3), (("free", 0), ("free", 0), 3)]])
        self.same([delay(slow, 3), delay(slow, 2), pace(slow), late_stream(slow, 3),
                   ring_mean(slow, ("", "10", [("free", 0)] * 3))], [3, None, (3, 1), "1", (2, 1)])
        two = Yard([Station(1, 1, [("1", [(("00",), 0, 1), (("11",), 0, 1)])]),
                    Station(1, 1, [("1", [(("",), 0, 1), (("1",), 0, 1)])])], [(0, 0, 1, 0)])
        self.same([pace(two), delay(two, 2), keeping_sizes(two), times(two, "1", 0)],
                  [(2, 1), 3, [(2,)], [(0, 1, (0, 0)), (1, 2, (1, 0)), (2, 3, (1, 1))]])

    def test_wishes(self):
        from flowyard.wishes import Wish, watching_station
        last = Wish([(0, 1), (0, 1)], [[0, 1]])
        self.same([last.passed(0, "011"), last.last_lot("0", "1"), ("0", "01") in last, (~last).good(),
                   watching_station(last, [1]).row(0, "1")], [[0, 1, 1], [1], True, [[0], [1]], (("1",), 1, 1)])

    def test_watch(self):
        from flowyard.watch import are_bars, breaker, gap, gap_heights, is_kept, is_witness, passed_lots, ranks
        from flowyard.wishes import Wish
        from flowyard.yards import Station, Yard
        last = Wish([(0, 1), (0, 1)], [[0, 1]])
        half = Yard([Station(1, 1, [("1", [(("",), 1, 1), (("",), 1, 1)]), ("1", [(("0",), 0, 1), (("1",), 0, 1)])])],
                    [])
        turns = Yard([Station(1, 1, [("1", [(("0",), 1, 1), (("0",), 1, 1)]),
                                     ("1", [(("1",), 0, 1), (("1",), 0, 1)])])], [])
        self.same([ranks(half, 0), passed_lots(half, 0, last), is_witness(half, 0, last, [1], ("", "01")),
                   is_kept(turns, 0, last)],
                  [[1, 0], [[0], [1], [0, 1]], True, True])
        self.same([gap(turns, 0, last, [1]), gap_heights(turns, 0, last, [1]), gap(half, 0, last, [1]),
                   are_bars(turns, 0, last, [1], {(0, 0): 0, (0, 1): 0, (1, 0): 1})],
                   [1, {(0, 0): 0, (0, 1): 0, (1, 0): 1}, None, True])
        self.assertIsNone(breaker(turns, 0, last))

    def test_taps_and_alarms(self):
        from flowyard.alarms import alarms, is_sure, rings_at, unsure_stream
        from flowyard.runs import flows
        from flowyard.taps import can_be_heard, first_stream, picture, unheard, view
        from flowyard.yards import Station, Yard
        latch = Station(1, 1, [("1", [(("0",), 0, 1), (("1",), 1, 1)]), ("1", [(("1",), 1, 1), (("1",), 1, 1)])])
        held = Yard([latch], [])
        self.same([flows(held, "00100"), can_be_heard(held, 0, "011"), first_stream(held, 0, "011"),
                   view(held, 0, "1")],
                  [["00111"], True, "010", [(1, ""), (1, "1")]])
        self.same([picture(held, 0), unheard(held, 0)], [[([0, 1], 0, 1), ([1], None, 1)], ["10"]])
        self.same([alarms(held, 0, [1]), alarms(held, 0, [0]), alarms(held, 0, [1, 0]), is_sure(held, 0, [1], "01")],
                  [["1"], [], [""], True])
        self.same([rings_at(held, 0, [1], "0010"), unsure_stream(held, 0, [1], "00"),
                   unsure_stream(held, 0, [1], "10")],
                  [3, "00", None])

    def test_swaps_and_patches(self):
        from flowyard.patches import greatest_keeping, kept_exits, least_changing, shown_by, word
        from flowyard.swaps import images, least_break, moments, swapped_end
        from flowyard.yards import Station, Yard
        parity = Station(1, 1, [("1", [(("0",), 0, 1), (("1",), 1, 1)]), ("1", [(("1",), 1, 1), (("0",), 0, 1)])])
        wide = Station(1, 1, [("1", [(("0",), 2, 1), (("1",), 1, 1)]), ("1", [(("1",), 1, 1), (("0",), 2, 1)]),
                              ("1", [(("0",), 0, 1), (("1",), 1, 1)])])
        yard = Yard([parity], [])
        self.same([images(yard, 0, wide), least_break(yard, 0, wide, 0, 1), swapped_end(yard, 0, wide, "01", 1, 2),
                   moments(yard, 0, 1)], [{0: [0, 2], 1: [1]}, ("0", 0), ((1,), (), "", ("01",)), [((1,), ())]])
        base = Yard([wide], [])
        patch = [(0, 0, "0", (("0",), 0, 1)), (0, 2, "1", (("0",), 1, 1))]
        self.same([word(base, patch, [0]), shown_by(base, patch, [1]), shown_by(base, patch, [0, 1])],
                  ["keeps", "01", "111"])
        self.same([least_changing(base, patch), greatest_keeping(base, patch), kept_exits(base, patch),
                   kept_exits(base, patch[:1])],
                  [[[1]], [[0]], [], [0]])

    def test_texts_claims_and_desks(self):
        from flowyard.claims import contrary, is_paper, is_true
        from flowyard.desk import Desk, told_again, tried
        from flowyard.texts import read_term, written
        from flowyard.yards import Station, Yard
        turn = Station(1, 1, [("1", [(("1",), 0, 1), (("0",), 0, 2)])])
        self.same(written(Yard([turn, turn], [(0, 0, 1, 0)])),
                  "station 1 1\nstanding 1 1 0 1 0 0 2\nstation 1 1\nstanding 1 1 0 1 0 0 2\npipe 0 0 1 0\nbegin 0 0\ncontents -\n")
        self.same([read_term("by(0110,in,late(1,in))\n"), written((("",), [[(0, ("0",)), (0, ("",))]]))],
                  [("by", "0110", "in", ("late", "1", "in")), "first -\nplace 0 0 0 -\n"])
        slow = ("in time", Yard([turn], []), 2, None, 1)
        self.same([is_true(slow), contrary(slow)[0], is_paper(contrary(slow), "1"), is_paper(contrary(slow), "00")],
                  [False, "late", True, False])
        yard = Yard([turn, turn], [(0, 0, 1, 0)])
        desk = Desk(yard, apart=1)
        self.same(desk.do_all("come 01", "beat 0", "can", "finish", "flows", "over"),
                  ["done", "done", "0 1", "3", "01", "4"])
        self.same([tried(desk, lambda held: held.finish()), desk.undo(), desk.state, desk.times(),
                   told_again(desk, yard).log()],
                  [0, "finish", ((0, 0), ("1",), "1", ("",)), [(0, 1, (0, 0))], ["come 01", "beat 0"]])

    def test_the_readme(self):
        found = doctest.testfile(str(README), module_relative=False)
        self.assertGreater(found.attempted, 5)
        self.assertEqual(found.failed, 0)


if __name__ == "__main__":
    unittest.main()

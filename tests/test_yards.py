"""[12] and class Yard."""

import unittest

from flowyard import errors
from flowyard.yards import Station, Yard
from helper import (BY_TURNS, COPY, HALF, OVERVIEW, PASS, ROW, SPLIT, TURN, UNLIKE, Cases, Dice, no_counts, no_texts,
                    odd_values, some_yard)

PIPES = [(0, 0, 1, 0), (0, 1, 2, 1), (1, 0, 2, 0)]
THREE = [COPY, HALF, UNLIKE]


def passing(number):
    """So many stations in a row."""
    return [PASS] * number, [(k, 0, k + 1, 0) for k in range(number - 1)]


class Ordinary(Cases):
    def test_parts_of_a_yard(self):
        self.same([len(OVERVIEW), OVERVIEW.stations, OVERVIEW.pipes], [3, THREE, PIPES])
        self.same([OVERVIEW.begin, OVERVIEW.exits], [((0, 0, 0), ("", "", "")), [(2, 0)]])

    def test_a_yard_of_one_station(self):
        for station, exits in [(PASS, [(0, 0)]), (COPY, [(0, 0), (0, 1)])]:
            for yard in [Yard([station], []), Yard((station,), ()), Yard([station], [], None)]:
                self.same([len(yard), yard.pipes, yard.begin, yard.exits], [1, [], ((0,), ()), exits])

    def test_pipes_in_any_sequence(self):
        begin = ((0, 1, 0), ("0", "10", "111"))
        wanted = Yard(THREE, PIPES, begin)
        for order in [(0, 2, 1), (1, 0, 2), (1, 2, 0), (2, 0, 1), (2, 1, 0)]:
            yard = Yard(THREE, [PIPES[k] for k in order], begin)
            self.assertEqual(yard, wanted)
            self.same([yard.pipes, yard.begin], [PIPES, begin])
            self.assertEqual(repr(yard), repr(wanted))

    def test_pipes_are_sorted_by_all_their_numbers(self):
        last = Station(2, 1, [("1", [(("",), 0, 1)] * 2)])
        yard = Yard([COPY, COPY, last, last], [(1, 1, 3, 1), (1, 0, 2, 1), (0, 1, 2, 0), (0, 0, 1, 0), (2, 0, 3, 0)])
        self.same(yard.pipes, [(0, 0, 1, 0), (0, 1, 2, 0), (1, 0, 2, 1), (1, 1, 3, 1), (2, 0, 3, 0)])
        crossed = Yard([COPY, PASS, PASS], [(0, 1, 1, 0), (0, 0, 2, 0)])
        self.same(crossed.pipes, [(0, 0, 2, 0), (0, 1, 1, 0)])

    def test_exits_are_numbered_by_station_and_out_line(self):
        self.same(Yard([COPY, COPY], [(0, 0, 1, 0)]).exits, [(0, 1), (1, 0), (1, 1)])
        self.same(Yard([COPY, COPY], [(0, 1, 1, 0)]).exits, [(0, 0), (1, 0), (1, 1)])
        self.same(Yard([COPY, COPY, PASS], [(0, 1, 1, 0), (1, 0, 2, 0)]).exits, [(0, 0), (1, 1), (2, 0)])

    def test_begin_told(self):
        begin = ((0, 1), ("101",))
        yard = Yard([PASS, HALF], [(0, 0, 1, 0)], begin)
        self.same(yard.begin, begin)
        self.same(Yard([HALF], [], ((1,), ())).begin, ((1,), ()))
        self.same(Yard(THREE, PIPES, ((0, 0, 0), ("", "", ""))), OVERVIEW)

    def test_contents_of_three_signs_and_of_four(self):
        for text in ("", "0", "11", "010", "111"):
            self.same(Yard([PASS, PASS], [(0, 0, 1, 0)], ((0, 0), (text,))).begin, ((0, 0), (text,)))
        for text in ("0000", "0101", "11111"):
            begin = ((0, 0), (text,))
            self.fails(errors.InvalidBegin, {"value": begin}, Yard, [PASS, PASS], [(0, 0, 1, 0)], begin)

    def test_begun(self):
        begin = ((0, 1, 0), ("0", "", "111"))
        yard = OVERVIEW.begun(begin)
        self.assertEqual(yard, Yard(THREE, PIPES, begin))
        self.same([yard.begin, yard.pipes, yard.stations, yard.exits], [begin, PIPES, THREE, [(2, 0)]])
        self.same(OVERVIEW.begin, ((0, 0, 0), ("", "", "")))
        self.assertEqual(yard.begun(begin=((0, 0, 0), ("", "", ""))), OVERVIEW)

    def test_twelve_stations(self):
        stations, pipes = passing(12)
        yard = Yard(stations, pipes)
        self.same([len(yard), yard.pipes, yard.exits], [12, pipes, [(11, 0)]])
        self.same(yard.begin, ((0,) * 12, ("",) * 11))

    def test_three_exits_and_four(self):
        self.assertEqual(len(Yard([COPY, COPY], [(0, 0, 1, 0)]).exits), 3)
        many = {"what": "exits", "limit": 3}
        self.fails(errors.TooMany, many, Yard, [COPY, COPY, COPY], [(0, 0, 1, 0), (0, 1, 2, 0)])
        self.fails(errors.TooMany, many, Yard, [COPY, COPY, COPY], [(0, 0, 1, 0), (1, 1, 2, 0)])

    def test_class_values(self):
        self.same([Yard.MOST_STATIONS, Yard.MOST_EXITS], [12, 3])
        self.same([ROW.MOST_STATIONS, ROW.MOST_EXITS], [12, 3])

    def test_repr(self):
        self.assertEqual(repr(Yard([PASS], [])), f"Yard([{PASS!r}], [], ((0,), ()))")
        self.assertEqual(repr(ROW), f"Yard([{TURN!r}, {TURN!r}], [(0, 0, 1, 0)], ((0, 0), ('',)))")
        told = Yard([PASS, HALF], [(0, 0, 1, 0)], ((0, 1), ("01",)))
        self.assertEqual(repr(told), f"Yard([{PASS!r}, {HALF!r}], [(0, 0, 1, 0)], ((0, 1), ('01',)))")
        self.assertEqual(eval(repr(told), {"Station": Station, "Yard": Yard}), told)

    def test_equal_if_all_parts_are(self):
        self.assertTrue(ROW == Yard((TURN, TURN), ((0, 0, 1, 0),), ((0, 0), ("",))))
        self.assertFalse(ROW != Yard([TURN, TURN], [(0, 0, 1, 0)]))
        for other in [Yard([TURN, PASS], [(0, 0, 1, 0)]), Yard([PASS, TURN], [(0, 0, 1, 0)]), Yard([TURN], []),
                      ROW.begun(((0, 0), ("0",)))]:
            self.assertFalse(ROW == other, other)
            self.assertTrue(ROW != other, other)
        two_halves = Yard([HALF, HALF], [(0, 0, 1, 0)])
        self.assertFalse(two_halves == two_halves.begun(((0, 1), ("",))))
        crossed = [Yard([COPY, PASS, PASS], pipes) for pipes in ([(0, 0, 1, 0), (0, 1, 2, 0)],
                                                                 [(0, 1, 1, 0), (0, 0, 2, 0)])]
        self.assertFalse(crossed[0] == crossed[1])

    def test_not_equal_to_values_of_other_kinds(self):
        for other in odd_values() + [repr(ROW), ([TURN, TURN], [(0, 0, 1, 0)], ((0, 0), ("",))), TURN, 1]:
            if other is not ROW:
                self.assertIs(ROW == other, False)
                self.assertIs(ROW != other, True)

    def test_what_the_interface_lists_is_defined_in_the_class_and_the_file(self):
        self.assertEqual(Yard.__module__, "flowyard.yards")
        listed = {"__init__", "MOST_STATIONS", "MOST_EXITS", "stations", "pipes", "begin", "exits", "begun",
                  "__len__", "__eq__", "__repr__"}
        self.assertLessEqual(listed, set(vars(Yard)))

    def test_arguments_by_name(self):
        self.assertEqual(Yard(pipes=[(0, 0, 1, 0)], stations=[TURN, TURN]), ROW)
        told = Yard(begin=((0, 0), ("1",)), pipes=[(0, 0, 1, 0)], stations=[TURN, TURN])
        self.same(told.begin, ((0, 0), ("1",)))

    def test_some_yards_are_told_as_they_were_passed(self):
        dice = Dice(12)
        for _ in range(100):
            yard = some_yard(dice, 6)
            again = Yard(yard.stations, list(reversed(yard.pipes)), yard.begin)
            self.assertEqual(again, yard)
            lines = [(k, line) for k in range(len(yard)) for line in range(yard.stations[k].outs)]
            self.same(sorted([pipe[:2] for pipe in yard.pipes] + yard.exits), lines)
            self.assertEqual([yard.pipes, yard.exits], [sorted(yard.pipes), sorted(yard.exits)])
            self.assertEqual(eval(repr(yard), {"Station": Station, "Yard": Yard}), yard)


class Unchanged(Cases):
    def test_what_was_passed_may_be_changed_afterwards(self):
        stations = [TURN, TURN]
        pipes = [(0, 0, 1, 0)]
        yard = Yard(stations, pipes)
        self.same([stations, pipes], [[TURN, TURN], [(0, 0, 1, 0)]])
        stations[0] = PASS
        stations.append(PASS)
        pipes.clear()
        self.assertEqual(yard, ROW)
        self.assertEqual([len(yard), repr(yard)], [2, repr(ROW)])

    def test_passed_pipes_are_not_sorted_in_their_place(self):
        pipes = PIPES[::-1]
        Yard(THREE, pipes)
        self.assertEqual(pipes, PIPES[::-1])

    def test_what_was_returned_may_be_changed_afterwards(self):
        yard = Yard(THREE, PIPES)
        yard.stations[0] = PASS
        for returned in (yard.stations, yard.pipes, yard.exits):
            returned.reverse()
            returned.append("more")
        self.assertEqual(yard, OVERVIEW)
        self.same([yard.stations, yard.pipes, yard.exits], [THREE, PIPES, [(2, 0)]])

    def test_properties_cannot_be_set(self):
        for name in ("stations", "pipes", "begin", "exits"):
            with self.assertRaises(AttributeError):
                setattr(ROW, name, None)


class WrongStations(Cases):
    def wrong(self, position, stations, pipes=()):
        with self.subTest(stations=repr(stations)):
            self.fails(errors.InvalidStations, {"position": position}, Yard, stations, list(pipes))

    def test_no_list_of_one_to_twelve(self):
        for value in odd_values() + [0, 1, 2, "", "1", [], (), [PASS] * 13, (PASS,) * 13, ["x"] * 13, [PASS] * 999,
                                     {0: PASS}]:
            self.wrong(None, value)
        stations, pipes = passing(13)
        self.wrong(None, stations, pipes)

    def test_elements_that_are_no_stations(self):
        for value in odd_values() + [0, 1, "", "01", [], [PASS], (1, 1, PASS.standings()), repr(PASS)]:
            if value is not PASS:
                self.wrong(0, [value])
                self.wrong(1, [PASS, value])
                self.wrong(2, (PASS, PASS, value, PASS))

    def test_the_first_one_that_is_none_decides(self):
        self.wrong(1, [PASS, None, "x"])
        self.wrong(3, [PASS] * 3 + [None] * 2)

    def test_station_0_has_one_in_line(self):
        self.wrong(0, [UNLIKE])
        self.wrong(0, [BY_TURNS, PASS], [(0, 0, 1, 0)])

    def test_another_wrong_station_decides_ahead_of_the_entry(self):
        self.wrong(1, [UNLIKE, None])
        self.wrong(2, [UNLIKE, PASS, "x"])


class WrongPipes(Cases):
    def wrong(self, position, stations, pipes, begin=None):
        with self.subTest(pipes=repr(pipes)):
            self.fails(errors.InvalidPipes, {"position": position}, Yard, stations, pipes, begin)

    def test_no_list(self):
        for value in odd_values() + [0, 1, "", "0010", {(0, 0, 1, 0): 1}]:
            self.wrong(None, [TURN, TURN], value)

    def test_elements_that_are_no_tuples_of_four(self):
        for value in odd_values() + [0, "", "0010", [], (), [0, 0, 1, 0], (0, 0, 1), (0, 0, 1, 0, 0), (0, 0, 1, "0")]:
            self.wrong(0, [TURN, TURN], [value])
            self.wrong(0, [TURN, TURN], [value, (0, 0, 1, 0)])
            self.wrong(1, [TURN, TURN], [(0, 0, 1, 0), value])

    def test_numbers_of_stations_and_lines(self):
        for value in no_counts() + [2, 3, 12, 10 ** 29]:
            self.wrong(0, [COPY, BY_TURNS], [(value, 0, 1, 0), (0, 1, 1, 1)])
            self.wrong(0, [COPY, BY_TURNS], [(0, value, 1, 0), (0, 1, 1, 1)])
            self.wrong(1, [COPY, BY_TURNS], [(0, 0, 1, 0), (0, 1, value, 1)])
            self.wrong(1, [COPY, BY_TURNS], [(0, 0, 1, 0), (0, 1, 1, value)])

    def test_bools_are_no_numbers(self):
        for pipe in [(False, 0, 1, 0), (0, False, 1, 0), (0, 0, True, 0), (0, 0, 1, False)]:
            self.wrong(0, [PASS, PASS], [pipe])

    def test_lines_that_a_station_does_not_have(self):
        self.wrong(0, [PASS, PASS], [(0, 1, 1, 0)])
        self.wrong(0, [PASS, PASS], [(0, 0, 1, 1)])
        self.wrong(1, [COPY, PASS, PASS], [(0, 0, 1, 0), (1, 1, 2, 0)])
        self.wrong(1, [COPY, PASS, BY_TURNS], [(0, 0, 2, 1), (0, 1, 1, 1)])

    def test_a_pipe_leads_to_a_greater_number(self):
        self.wrong(0, [PASS, PASS], [(1, 0, 0, 0)])
        self.wrong(0, [PASS, PASS], [(0, 0, 0, 0)])
        self.wrong(1, [COPY, PASS, BY_TURNS], [(0, 0, 1, 0), (1, 0, 1, 0)])
        self.wrong(1, [COPY, BY_TURNS, PASS], [(0, 0, 1, 0), (2, 0, 1, 1)])

    def test_no_two_pipes_at_one_out_line_or_in_line(self):
        self.wrong(1, [PASS, BY_TURNS], [(0, 0, 1, 0), (0, 0, 1, 1)])
        self.wrong(1, [COPY, PASS], [(0, 0, 1, 0), (0, 1, 1, 0)])
        self.wrong(1, [PASS, PASS], [(0, 0, 1, 0), (0, 0, 1, 0)])
        self.wrong(2, THREE, [(0, 1, 2, 0), (0, 0, 1, 0), (1, 0, 2, 0)])
        self.wrong(3, THREE, PIPES + [(0, 0, 2, 0)])

    def test_each_in_line_but_the_entry_has_a_pipe(self):
        self.wrong(None, [PASS, PASS], [])
        self.wrong(None, [PASS, PASS], ())
        self.wrong(None, [COPY, BY_TURNS], [(0, 0, 1, 0)])
        self.wrong(None, [COPY, BY_TURNS], [(0, 0, 1, 1)])
        self.wrong(None, THREE, PIPES[:2])
        self.wrong(None, [PASS] * 12, passing(12)[1][:-1])

    def test_the_first_wrong_pipe_decides_ahead_of_one_that_lacks(self):
        self.wrong(0, [PASS, PASS], [(1, 0, 0, 0), "x"])
        self.wrong(1, THREE, [PIPES[0], None, PIPES[0], "x"])
        self.wrong(1, THREE, [PIPES[0], PIPES[0], None])
        self.wrong(1, THREE, [PIPES[2], None])
        self.wrong(0, [PASS], [(0, 0, 1, 0)])


class WrongBegin(Cases):
    def wrong(self, begin, stations=(COPY, HALF, UNLIKE), pipes=tuple(PIPES)):
        yard = Yard(stations, pipes)
        with self.subTest(begin=repr(begin)):
            self.fails(errors.InvalidBegin, {"value": begin}, yard.begun, begin)
            if begin is not None:
                self.fails(errors.InvalidBegin, {"value": begin}, Yard, stations, pipes, begin)

    def test_no_tuple_of_two(self):
        right = ((0, 0, 0), ("", "", ""))
        for begin in odd_values() + [0, "", "01", [], (), list(right), right[:1], right[1:], right + ("",),
                                     right + ((),), right[::-1]]:
            self.wrong(begin)

    def test_standings(self):
        for standings in odd_values() + [0, "000", [0, 0, 0], (), (0, 0), (0, 0, 0, 0), (0, 2, 0), (1, 0, 0),
                                         (0, 0, 1), (0, -1, 0)]:
            self.wrong((standings, ("", "", "")))
        for standing in no_counts() + [2, 3, 4]:
            self.wrong(((0, standing, 0), ("", "", "")))

    def test_contents(self):
        for contents in odd_values() + [0, "", "000", ["", "", ""], (), ("", ""), ("", "", "", "")]:
            self.wrong(((0, 0, 0), contents))
        for text in no_texts() + ["0000", "1111", "01010101"]:
            for contents in [(text, "", ""), ("", text, ""), ("", "", text)]:
                self.wrong(((0, 0, 0), contents))

    def test_contents_of_a_yard_without_pipes(self):
        for contents in [("",), [], None, "", {}]:
            self.wrong(((0,), contents), (PASS,), ())

    def test_bools_are_no_standings(self):
        for standings in [(False, 0, 0), (0, True, 0), (0, False, 0), (0, 0, False)]:
            self.wrong((standings, ("", "", "")))


class Sequence(Cases):
    def test_stations_pipes_begin_exits(self):
        four = [COPY, COPY, COPY], [(0, 0, 1, 0), (0, 1, 2, 0)]
        self.fails(errors.InvalidStations, {"position": 0}, Yard, [None], None, 0)
        self.fails(errors.InvalidStations, {"position": None}, Yard, [], [(0, 0)], ())
        self.fails(errors.InvalidStations, {"position": 0}, Yard, [UNLIKE], [(0, 0)], ())
        self.fails(errors.InvalidPipes, {"position": None}, Yard, [PASS], None, 0)
        self.fails(errors.InvalidPipes, {"position": 0}, Yard, [PASS], [0], 0)
        self.fails(errors.InvalidPipes, {"position": None}, Yard, [SPLIT, COPY, COPY], [(0, 0, 1, 0)], 0)
        self.fails(errors.InvalidBegin, {"value": 0}, Yard, *four, 0)
        self.fails(errors.InvalidBegin, {"value": ((0, 0, 0), ("",))}, Yard, *four, ((0, 0, 0), ("",)))
        self.fails(errors.TooMany, {"what": "exits", "limit": 3}, Yard, *four)
        self.fails(errors.TooMany, {"what": "exits", "limit": 3}, Yard, *four, ((0, 0, 0), ("", "")))


if __name__ == "__main__":
    unittest.main()

"""[11] and class Station."""

import unittest

from flowyard import errors, yards
from flowyard.yards import Station
from helper import BY_TURNS, COPY, HALF, PASS, TURN, UNLIKE, Cases, no_counts, no_texts, odd_values

ONE = [(("0",), 0, 1), (("1",), 0, 1)]
FOUR = [(("0",), 0, 1), (("1",), 0, 1), (("1",), 0, 1), (("0",), 0, 1)]


def one_row(row, outs=1):
    """A station with this row among right ones."""
    gives = ("1",) * outs
    return Station(1, outs, [("1", [(gives, 0, 1), (gives, 1, 1)]), ("1", [(gives, 0, 1), row])])


class Ordinary(Cases):
    def test_parts_of_a_station(self):
        self.same([PASS.ins, PASS.outs, len(PASS), PASS.standings()], [1, 1, 1, [("1", ONE)]])
        self.same([COPY.ins, COPY.outs], [1, 2])
        self.same([UNLIKE.ins, UNLIKE.outs, UNLIKE.standings()], [2, 1, [("12", FOUR)]])
        self.same([len(BY_TURNS), BY_TURNS.reads(0), BY_TURNS.reads(1)], [2, "1", "2"])

    def test_one_to_four_standings(self):
        for number in (1, 2, 3, 4):
            standings = [("1", [(("0",), k, 1), (("1",), number - 1, 1)]) for k in range(number)]
            station = Station(1, 1, standings)
            self.same([len(station), station.standings()], [number, standings])
            for k in range(number):
                self.same(station.row(k, "0"), (("0",), k, 1))
                self.same(station.row(k, "1"), (("1",), number - 1, 1))

    def test_rows_stand_in_the_sequence_of_their_signs(self):
        both = Station(2, 2, [
            ("2", [(("0", ""), 1, 2), (("1", ""), 2, 3)]),
            ("12", [(("00", ""), 0, 4), (("01", ""), 1, 5), (("10", ""), 2, 6), (("11", ""), 0, 7)]),
            ("1", [(("", "0"), 0, 8), (("", "1"), 1, 9)]),
        ])
        self.same([both.reads(k) for k in range(3)], ["2", "12", "1"])
        self.same([both.row(1, signs) for signs in ("00", "01", "10", "11")], both.standings()[1][1])
        self.same([both.row(0, signs) for signs in "01"], both.standings()[0][1])
        self.same([both.row(2, "0"), both.row(2, "1")], [(("", "0"), 0, 8), (("", "1"), 1, 9)])

    def test_edges_of_rows(self):
        for row in [(("",), 0, 1), (("11",), 1, 9), (("0",), 1, 5)]:
            self.same(one_row(row).row(1, "1"), row)
        self.same(one_row((("", "01"), 1, 9), 2).row(1, "1"), (("", "01"), 1, 9))

    def test_repr(self):
        self.assertEqual(repr(PASS), "Station(1, 1, [('1', [(('0',), 0, 1), (('1',), 0, 1)])])")
        self.assertEqual(repr(COPY), "Station(1, 2, [('1', [(('0', '0'), 0, 1), (('1', '1'), 0, 1)])])")
        self.assertEqual(repr(UNLIKE), "Station(2, 1, [('12', [(('0',), 0, 1), (('1',), 0, 1), "
                                       "(('1',), 0, 1), (('0',), 0, 1)])])")
        self.assertEqual(eval(repr(HALF), {"Station": Station}), HALF)

    def test_equal_if_all_parts_are(self):
        self.assertTrue(PASS == Station(1, 1, [("1", ONE)]))
        self.assertFalse(PASS != Station(1, 1, [("1", ONE)]))
        self.assertTrue(PASS == Station(1, 1, (("1", tuple(ONE)),)))
        others = [TURN, COPY, HALF, UNLIKE, BY_TURNS, Station(2, 1, [("1", ONE)]), Station(2, 1, [("2", ONE)]),
                  Station(1, 1, [("1", [ONE[0], (("1",), 0, 2)])]), Station(1, 1, [("1", ONE), ("1", ONE)])]
        for other in others:
            self.assertFalse(PASS == other, other)
            self.assertTrue(PASS != other, other)
        self.assertFalse(others[5] == others[6])
        no_texts_given = [Station(1, outs, [("1", [(("",) * outs, 0, 1)] * 2)]) for outs in (1, 2)]
        self.assertFalse(no_texts_given[0] == no_texts_given[1])

    def test_not_equal_to_values_of_other_kinds(self):
        for other in odd_values() + [repr(PASS), (1, 1, [("1", ONE)]), PASS.standings(), 1]:
            if other is not PASS:
                self.assertIs(PASS == other, False)
                self.assertIs(PASS != other, True)

    def test_what_the_interface_lists_is_defined_in_the_class_and_the_file(self):
        self.assertEqual(Station.__module__, "flowyard.yards")
        self.assertIs(yards.Station, Station)
        listed = {"__init__", "ins", "outs", "standings", "reads", "row", "__len__", "__eq__", "__repr__"}
        self.assertLessEqual(listed, set(vars(Station)))

    def test_arguments_by_name_and_by_position(self):
        named = Station(standings=[("1", ONE)], outs=1, ins=1)
        self.assertEqual(named, PASS)
        self.same(named.row(signs="1", standing=0), PASS.row(0, "1"))
        self.same(named.reads(standing=0), "1")

    def test_lists_may_be_tuples(self):
        for standings in [(("1", ONE),), [("1", tuple(ONE))], (("1", tuple(ONE)),)]:
            station = Station(1, 1, standings)
            self.assertEqual(station, PASS)
            self.same(station.standings(), [("1", ONE)])


class Unchanged(Cases):
    def test_what_was_passed_may_be_changed_afterwards(self):
        rows = list(ONE)
        standings = [("1", rows)]
        station = Station(1, 1, standings)
        self.same(standings, [("1", ONE)])
        rows[0] = (("1",), 0, 9)
        rows.append("more")
        standings.append("more")
        self.assertEqual(station, PASS)
        self.same(station.standings(), [("1", ONE)])
        self.same(station.row(0, "0"), (("0",), 0, 1))
        self.assertEqual(len(station), 1)

    def test_what_was_returned_may_be_changed_afterwards(self):
        station = Station(1, 1, [("1", ONE)])
        returned = station.standings()
        returned[0][1][0] = (("1",), 0, 9)
        returned[0][1].append("more")
        returned.append("more")
        self.same(station.standings(), [("1", ONE)])
        self.same(station.row(0, "0"), (("0",), 0, 1))
        self.assertEqual([len(station), repr(station)], [1, repr(PASS)])

    def test_properties_cannot_be_set(self):
        for name in ("ins", "outs"):
            with self.assertRaises(AttributeError):
                setattr(PASS, name, 2)


class Wrong(Cases):
    def test_ins_and_outs(self):
        wrong = no_counts() + [0, 3, 12, 10 ** 29]
        self.fails_on(errors.InvalidIns, wrong, lambda value: Station(value, 1, [("1", ONE)]))
        self.fails_on(errors.InvalidOuts, wrong, lambda value: Station(1, value, [("1", ONE)]))

    def wrong_standings(self, position, standings, ins=1, outs=1):
        with self.subTest(standings=repr(standings)):
            self.fails(errors.InvalidStandings, {"position": position}, Station, ins, outs, standings)

    def test_standings_that_are_no_list_of_one_to_four(self):
        for value in odd_values() + [0, 1, -1, "", "1", [], (), [("1", ONE)] * 5, (("1", ONE),) * 5, ["x"] * 5,
                                     {"1": ONE}, [("1", ONE)] * 999]:
            self.wrong_standings(None, value)

    def test_standings_that_are_no_tuples_of_two(self):
        for value in odd_values() + [0, 1, "", "1", "10", [], (), ["1", ONE], ("1",), ("1", ONE, 1), ("1", ONE, ONE)]:
            self.wrong_standings(0, [value])
            self.wrong_standings(1, [("1", ONE), value, ("1", ONE)])

    def test_what_standings_read(self):
        for value in odd_values() + [0, 1, 2, 12, "", "0", "3", "11", "22", "21", "1 ", "123", ["1"], ("1",), [], ()]:
            for rows in (ONE, FOUR):
                self.wrong_standings(0, [(value, rows)], 1)
                if value != "2" or rows == FOUR:
                    self.wrong_standings(0, [(value, rows)], 2)

    def test_two_and_both_ask_for_two_in_lines(self):
        for reads, rows in [("2", ONE), ("12", FOUR)]:
            self.wrong_standings(0, [(reads, rows)], 1)
            self.wrong_standings(1, [("1", ONE), (reads, rows)], 1)
            self.same(Station(2, 1, [(reads, rows)]).standings(), [(reads, rows)])

    def test_how_many_rows(self):
        for rows in [[], (), ONE[:1], ONE + ONE[:1], FOUR, None, "01", 2, {0: ONE[0], 1: ONE[1]}]:
            self.wrong_standings(0, [("1", rows)])
            if rows != FOUR:
                self.wrong_standings(0, [("2", rows)], 2)
        for rows in [[], ONE, FOUR[:3], FOUR + FOUR[:1], None, "0000"]:
            self.wrong_standings(0, [("12", rows)], 2)

    def test_rows_that_are_no_tuples_of_three(self):
        for row in odd_values() + [0, "", "0", [], (), [("0",), 0, 1], (("0",), 0), (("0",), 0, 1, 1)]:
            self.wrong_standings(0, [("1", [row, ONE[1]])])
            self.wrong_standings(0, [("1", [ONE[0], row])])
            self.wrong_standings(0, [("12", FOUR[:3] + [row])], 2)

    def test_gives(self):
        wrong = [(text,) for text in no_texts()] + [("000",), ("0101",), ["0"], [], (), "0", "", None, True, 0,
                                                    ("0", "0"), ("", ""), {"0": 1}]
        for gives in wrong:
            self.wrong_standings(1, [("1", ONE), ("1", [ONE[0], (gives, 0, 1)])])
        two = [("0",), ("0", "1", "0"), ["0", "1"], (), ("0", None), (None, "0"), ("0", "111"), ("000", "1"), "01"]
        for gives in two:
            self.wrong_standings(0, [("1", [(gives, 0, 1), (("", ""), 0, 1)])], 1, 2)

    def test_goals_are_standings(self):
        for goal in no_counts() + [1, 2, 3, 10 ** 29]:
            self.wrong_standings(0, [("1", [ONE[0], (("1",), goal, 1)])])
        for goal in no_counts() + [2, 3, 4]:
            self.wrong_standings(1, [("1", ONE), ("1", [ONE[0], (("1",), goal, 1)])])
        for number in (1, 2, 3, 4):
            rows = [(("",), number, 1), (("",), 0, 1)]
            self.wrong_standings(0, [("1", rows)] + [("1", ONE)] * (number - 1))

    def test_ticks_are_1_to_9(self):
        for ticks in no_counts() + [0, 10, 11, 10 ** 29]:
            self.wrong_standings(0, [("1", [ONE[0], (("1",), 0, ticks)])])

    def test_the_first_wrong_standing_decides(self):
        self.wrong_standings(1, [("1", ONE), ("2", ONE), "x"])
        self.wrong_standings(2, [("1", ONE), ("1", ONE), ("1", []), ("1", FOUR)])
        self.wrong_standings(0, ["x", ("1", ONE), None, None])
        self.wrong_standings(3, [("1", ONE), ("1", ONE), ("1", ONE), None])

    def test_the_first_parameter_decides(self):
        self.fails(errors.InvalidIns, {"value": 0}, Station, 0, 0, [])
        self.fails(errors.InvalidIns, {"value": True}, Station, True, True, None)
        self.fails(errors.InvalidOuts, {"value": 3}, Station, 1, 3, [])
        self.fails(errors.InvalidIns, {"value": 3}, Station, standings=[], outs=3, ins=3)

    def test_reads_and_row_of_no_standing(self):
        wrong = no_counts() + [2, 3, 4, 10 ** 29]
        self.fails_on(errors.InvalidStanding, wrong, HALF.reads)
        self.fails_on(errors.InvalidStanding, wrong, lambda value: HALF.row(value, "0"))
        self.fails_on(errors.InvalidStanding, [1], PASS.reads)

    def test_row_of_wrong_signs(self):
        one = no_texts() + ["", "00", "01", "10", "11", "000"]
        self.fails_on(errors.InvalidText, one, lambda value: PASS.row(0, value))
        self.fails_on(errors.InvalidText, one, lambda value: BY_TURNS.row(1, value))
        two = no_texts() + ["", "0", "1", "000", "0 1", ("0", "1")]
        self.fails_on(errors.InvalidText, two, lambda value: UNLIKE.row(0, value))

    def test_the_standing_decides_ahead_of_the_signs(self):
        self.fails(errors.InvalidStanding, {"value": 2}, HALF.row, 2, "x")
        self.fails(errors.InvalidStanding, {"value": False}, HALF.row, False, None)
        self.fails(errors.InvalidText, {"value": "x"}, HALF.row, 1, "x")


if __name__ == "__main__":
    unittest.main()

"""[63], [67]: wishes, lots, passed places, last lots, and watching stations."""

import unittest

from flowyard import errors
from flowyard.runs import flows
from flowyard.wishes import Wish, watching_station
from flowyard.yards import Station, Yard
from helper import Cases, Dice, no_counts, no_texts, odd_values
from slow_rests import all_texts, endless_streams
from some_wishes import ALL_LOTS, LAST, ONE, ROUND, slow_last_lot, some_wish
from spoiling import with_tuples, wrong_kinds


class Parts(Cases):
    def test_the_documents_wish(self):
        self.same([LAST.passed(0, "011"), LAST.last_lot("0", "1"), ("0", "01") in LAST, (~LAST).good(),
                   watching_station(LAST, [1]).row(0, "1")], [[0, 1, 1], [1], True, [[0], [1]], (("1",), 1, 1)])

    def test_goals_and_lots(self):
        self.same([LAST.goals(), LAST.good(), LAST.lots(), len(LAST)], [[(0, 1), (0, 1)], [[0, 1]], [[0], [1], [0, 1]], 2])
        self.same([ONE.goals(), ONE.good(), ONE.lots(), len(ONE)], [[(0, 0)], [], [[0]], 1])
        self.same([ROUND.good(), len(ROUND)], [[[0], [3], [0, 1, 2, 3]], 4])
        for number, lots in ALL_LOTS.items():
            wish = Wish([(0, 0)] * number, lots[::-1])
            self.same([wish.lots(), wish.good(), len(wish)], [lots, lots, number])
        self.same(ALL_LOTS[3], [[0], [1], [2], [0, 1], [0, 2], [1, 2], [0, 1, 2]])

    def test_the_most_places(self):
        self.same([Wish.MOST_PLACES, LAST.MOST_PLACES], [4, 4])

    def test_lists_and_tuples(self):
        for goals, good in [([(1, 0), (0, 0)], [[1], [0, 1]]), (((1, 0), (0, 0)), ((1,), (0, 1))), ([(1, 0), (0, 0)], [(0, 1), [1]])]:
            wish = Wish(good=good, goals=goals)
            self.same([wish.goals(), wish.good()], [[(1, 0), (0, 0)], [[1], [0, 1]]])

    def test_repr(self):
        self.assertEqual(repr(LAST), "Wish([(0, 1), (0, 1)], [[0, 1]])")
        self.assertEqual(repr(Wish(((0, 0),), ())), "Wish([(0, 0)], [])")
        self.assertEqual(repr(ROUND), "Wish([(1, 0), (2, 1), (3, 2), (0, 3)], [[0], [3], [0, 1, 2, 3]])")

    def test_equal(self):
        self.assertEqual(LAST, Wish(((0, 1), (0, 1)), ((0, 1),)))
        self.assertEqual(ROUND, Wish(ROUND.goals(), [[0], (0, 1, 2, 3), [3]]))
        for other in [Wish([(0, 1), (0, 1)], []), Wish([(0, 1), (1, 1)], [[0, 1]]), Wish([(0, 1), (0, 1), (0, 0)], [[0, 1]]),
                      ~LAST, repr(LAST), LAST.goals(), (LAST.goals(), LAST.good()), None, 2, Station]:
            self.assertFalse(LAST == other)
            self.assertTrue(LAST != other)

    def test_the_contrary(self):
        dice = Dice(631)
        for wish in [LAST, ONE, ROUND, *[some_wish(dice) for _ in range(30)]]:
            other = ~wish
            self.same(other.goals(), wish.goals())
            self.same(other.good(), [lot for lot in wish.lots() if lot not in wish.good()])
            self.assertEqual(~other, wish)
            for stream in endless_streams(2, 2):
                self.assertIs(stream in other, stream not in wish)

    def test_nothing_comes_in_or_goes_out(self):
        goals, good = [(0, 1), (0, 1)], [[0, 1], [1]]
        wish = Wish(goals, good)
        goals[0] = (1, 1)
        goals.clear()
        good[0].append(5)
        good.pop()
        for found in (wish.goals(), wish.good(), wish.good()[0], wish.lots(), wish.lots()[0], wish.passed(0, "01"), wish.last_lot("", "0")):
            found.clear()
        self.same([wish.goals(), wish.good(), wish.lots()], [[(0, 1), (0, 1)], [[1], [0, 1]], [[0], [1], [0, 1]]])
        self.same([wish.passed(0, "01"), wish.last_lot("", "0")], [[0, 1], [0]])


class Made(Cases):
    """The errors of the constructor."""

    def test_goals(self):
        for value in odd_values() + [[], (), "", "01", 0, [(0, 0)] * 5, {(0, 0): 1}, {(0, 0)}, iter([(0, 0)])]:
            self.fails(errors.InvalidGoals, {"position": None}, Wish, value, [])
            self.fails(errors.InvalidGoals, {"position": None}, Wish, goals=value, good=None)
        wrong = odd_values() + [(), (0,), [0, 0], (0, 0, 0), (2, 0), (0, 2), (-1, 0), (True, 0), (0, False), (None, 0), ("0", 0), "00", 0]
        for value in wrong:
            self.fails(errors.InvalidGoals, {"position": 1}, Wish, [(0, 1), value], [])
            self.fails(errors.InvalidGoals, {"position": 0}, Wish, (value, None), None)
        self.fails(errors.InvalidGoals, {"position": 2}, Wish, [(0, 1), (2, 2), (3, 0)], [[0]])
        self.same(Wish([(3, 0), (2, 1), (1, 2), (0, 3)], []).goals()[0], (3, 0))

    def test_lots(self):
        for value in odd_values() + ["", "0", 0, {(0,): 1}, iter([[0]])]:
            self.fails(errors.InvalidLots, {"position": None}, Wish, [(0, 1), (0, 1)], value)
        wrong = odd_values() + [[], (), [2], [-1], [1, 0], [0, 0], [0, 1, 2], [True], [False, 1], [0, True], "0", 0, [[0]], ["0"]]
        for value in wrong:
            self.fails(errors.InvalidLots, {"position": 1}, Wish, [(0, 1), (0, 1)], [[1], value])
            self.fails(errors.InvalidLots, {"position": 0}, Wish, [(0, 1), (0, 1)], (value, None))

    def test_lots_that_stand_ahead(self):
        for good, position in [([[0], [1], [0]], 2), ([(0,), [0]], 1), ([[0], (0,), None], 1), (((0, 1), (0,), (0, 1)), 2)]:
            self.fails(errors.InvalidLots, {"position": position}, Wish, [(0, 1), (0, 1)], good)

    def test_goals_ahead_of_lots(self):
        self.fails(errors.InvalidGoals, {"position": 1}, Wish, [(0, 0), (0, 2)], None)
        self.fails(errors.InvalidGoals, {"position": None}, Wish, [], [[9]])


class Ways(Cases):
    def test_goes_and_passed(self):
        self.same([ROUND.goes(0, text) for text in ("", "0", "1", "00", "01", "0000", "1111", "0101")], [0, 1, 0, 2, 1, 0, 0, 2])
        self.same([ROUND.passed(0, text) for text in ("", "0", "1", "0101")], [[], [1], [0], [1, 1, 2, 2]])
        self.same(ROUND.passed(place=2, text="0001"), [3, 0, 1, 1])
        self.same(ROUND.goes(place=3, text="1110"), 0)
        self.same([ONE.goes(0, "01" * 1000), len(ONE.passed(0, "01" * 1000))], [0, 2000])

    def test_many(self):
        dice = Dice(632)
        for _ in range(30):
            wish = some_wish(dice)
            for text in all_texts(4):
                for start in range(len(wish)):
                    place = start
                    passed = []
                    for sign in text:
                        place = wish.goals()[place][int(sign)]
                        passed.append(place)
                    self.same([wish.passed(start, text), wish.goes(start, text)], [passed, place])

    def test_errors(self):
        for call in (ROUND.goes, ROUND.passed):
            self.fails_on(errors.InvalidPlace, no_counts() + [4, 10 ** 29], lambda value: call(value, None))
            self.fails_on(errors.InvalidText, no_texts(), lambda value: call(3, value))
            self.fails(errors.InvalidPlace, {"value": True}, call, text="", place=True)
        for call in (ONE.goes, LAST.goes):
            self.fails(errors.InvalidPlace, {"value": 2}, call, 2, "")


class LastLots(Cases):
    def test_told_in_several_ways(self):
        for begin, lap, lot in [("", "0", [0]), ("", "1", [1]), ("", "01", [0, 1]), ("1", "0", [0]), ("111", "0000", [0]),
                                ("0", "1", [1]), ("0101", "0101", [0, 1])]:
            self.same(LAST.last_lot(begin, lap), lot)
            self.same(LAST.last_lot(lap=lap * 3, begin=begin + lap), lot)

    def test_place_0_is_not_passed_ahead_of_all_signs(self):
        leaves = Wish([(1, 1), (2, 1), (2, 2)], [[1, 2]])
        self.same([leaves.last_lot("", "0"), leaves.last_lot("", "1"), leaves.last_lot("1", "01")], [[2], [1], [2]])

    def test_laps_that_come_round_after_several_times(self):
        self.same([ROUND.last_lot("", "0"), ROUND.last_lot("", "00"), ROUND.last_lot("0", "00"), ROUND.last_lot("", "1"), ROUND.last_lot("00", "1"),
                   ROUND.last_lot("", "01"), ROUND.last_lot("", "0000"), ROUND.last_lot("", "010")],
                  [[0, 1, 2, 3], [0, 1, 2, 3], [0, 1, 2, 3], [0], [2], [0, 1, 2, 3], [0, 1, 2, 3], [0, 1, 2, 3]])
        # It takes three laps until the places are those that come again and again.
        slow = Wish([(1, 0), (2, 1), (3, 2), (3, 3)], [[3]])
        self.same([slow.last_lot("", "0"), slow.last_lot("", "10"), slow.last_lot("1", "1")], [[3], [3], [0]])
        turns = Wish([(1, 2), (0, 0), (0, 3), (2, 0)], [])
        self.same([turns.last_lot("", lap) for lap in ("0", "1", "01", "10", "001", "011")],
                  [slow_last_lot(turns, "", lap) for lap in ("0", "1", "01", "10", "001", "011")])

    def test_many_by_going_round(self):
        dice = Dice(633)
        for _ in range(60):
            wish = some_wish(dice)
            for stream in endless_streams(2, 3):
                lot = slow_last_lot(wish, *stream)
                self.same(wish.last_lot(*stream), lot)
                self.assertIs(stream in wish, lot in wish.good())

    def test_a_thousand_signs(self):
        self.same(ROUND.last_lot("0" * 1000, "1" * 1000), [0])
        self.assertIs(("0" * 1000, "1" * 1000) in ROUND, True)
        for value in [("0" * 1001, "1"), ("", "1" * 1001), ("", "")]:
            self.assertIs(value in ROUND, False)
            self.assertIs(value in ~ROUND, False)

    def test_errors(self):
        self.fails_on(errors.InvalidText, no_texts() + ["0" * 1001], lambda value: LAST.last_lot(value, ""))
        self.fails_on(errors.InvalidLap, no_texts() + ["", "0" * 1001], lambda value: LAST.last_lot("", value))
        self.fails(errors.InvalidText, {"value": 0}, LAST.last_lot, lap=0, begin=0)
        self.fails(errors.InvalidLap, {"value": ""}, LAST.last_lot, lap="", begin="")

    def test_granted_is_asked_of_any_value(self):
        everything = Wish(LAST.goals(), LAST.lots())
        for value in odd_values() + [[], (), "", "01", 0, [0], ("",), ("", ""), ["0", "1"], ("0", "1", ""), ("0", ""), (0, "1"), ("0", 1),
                                     (None, "1"), ("0", None), (["0"], ["1"]), ("2", "1"), ("0", "2"), (b"0", b"1"), [0, 1], [[0, 1]]]:
            for wish in (LAST, ~LAST, everything):
                self.assertIs(value in wish, False)
        for value in wrong_kinds(("0", "01")):
            self.assertIs(value in everything, False)
        for stream in endless_streams(2, 2):
            self.assertIs(stream in everything, True)
            self.assertIs(stream in ~everything, False)
            self.assertIs(with_tuples(stream) in everything, True)


class Watching(Cases):
    def test_stations(self):
        self.assertEqual(watching_station(LAST, [1]), Station(1, 1, [("1", [(("0",), 0, 1), (("1",), 1, 1)])] * 2))
        self.assertEqual(watching_station(LAST, (0, 1)), Station(1, 1, [("1", [(("1",), 0, 1), (("1",), 1, 1)])] * 2))
        self.assertEqual(watching_station(lot=[0], wish=ONE), Station(1, 1, [("1", [(("1",), 0, 1), (("1",), 0, 1)])]))
        self.assertEqual(repr(watching_station(Wish([(1, 0), (0, 1)], []), [0])),
                         "Station(1, 1, [('1', [(('0',), 1, 1), (('1',), 0, 1)]), ('1', [(('1',), 0, 1), (('0',), 1, 1)])])")

    def test_it_gives_a_1_for_each_sign_that_leads_to_the_lot(self):
        dice = Dice(671)
        for _ in range(40):
            wish = some_wish(dice)
            lot = dice.one_of(wish.lots())
            yard = Yard([watching_station(wish, lot)], [])
            for text in all_texts(4):
                told = "".join("1" if place in lot else "0" for place in wish.passed(0, text))
                self.same(flows(yard, text), [told])

    def test_lots(self):
        wrong = odd_values() + [[], (), [2], [-1], [1, 0], [0, 0], [0, 1, 2], [True], [False], [False, 1], "0", 0, [[0]], {0: 1}, {0, 1}]
        self.fails_on(errors.InvalidLot, wrong, lambda value: watching_station(LAST, value))
        self.fails(errors.InvalidLot, {"value": [4]}, watching_station, lot=[4], wish=ROUND)
        lot = [0, 1]
        watching_station(LAST, lot)
        self.same(lot, [0, 1])


if __name__ == "__main__":
    unittest.main()

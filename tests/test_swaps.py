"""[81], [82]: stations that are exchanged, ENDs of swaps, moments of a standing."""

import unittest

from flowyard import errors
from flowyard.runs import end, full_run
from flowyard.swaps import exchanged, images, is_kept, kept_paper, least_break, moments, swapped_end
from flowyard.yards import Station, Yard
from helper import (BY_TURNS, COPY, EATS, HALF, OVERVIEW, PASS, ROW, SPLIT, TURN, TWICE, UNLIKE, Cases, Dice,
                    no_counts, no_texts,
                    odd_values, some_station, some_yard)
from slow_rests import slow_look, small_held
from slow_swaps import beats_of_station, slow_exchanged, slow_moments, slow_swapped_end
from some_held import some_held
from some_looked import fails_looking
from some_yards import HELD_BY_TWO, HOLDS, counting, doubling
from spoiling import few

PARITY = Station(1, 1, [("1", [(("0",), 0, 1), (("1",), 1, 1)]), ("1", [(("1",), 1, 1), (("0",), 0, 1)])])
WIDE = Station(1, 1, [("1", [(("0",), 2, 1), (("1",), 1, 1)]), ("1", [(("1",), 1, 1), (("0",), 2, 1)]),
                      ("1", [(("0",), 0, 1), (("1",), 1, 1)])])
BASE = Yard([PARITY], [])
# No values of these are Stations with as many lines as PARITY.
NO_NEWS = [value for value in odd_values()
           if value != PASS] + [COPY, UNLIKE, SPLIT, BASE, [PARITY], (PARITY,), repr(PARITY)]


def some_parts(dice, most=3, rests=6):
    """A yard of few rests, one of its stations, and a new one for it."""
    while True:
        yard = dice.one_of([some_held(dice), some_yard(dice, most), HELD_BY_TWO, ROW])
        if slow_look(yard, 5)[1] is None and small_held(yard, rests):
            station = dice.below(len(yard))
            there = yard.stations[station]
            return yard, station, some_station(dice, there.ins, there.outs)


class Exchanged(Cases):
    def test_the_documents_yard(self):
        self.same([images(BASE, 0, WIDE), least_break(BASE, 0, WIDE, 0, 1), swapped_end(BASE, 0, WIDE, "01", 1, 2),
                   moments(BASE, 0, 1)],
                  [{0: [0, 2], 1: [1]}, ("0", 0), ((1,), (), "", ("01",)), [((1,), ())]])

    def test_all_else_stays(self):
        yard = Yard([COPY, HALF, UNLIKE], [(0, 0, 1, 0), (0, 1, 2, 1), (1, 0, 2, 0)], ((0, 1, 0), ("01", "1", "")))
        found = exchanged(yard, 1, WIDE, 2)
        self.assertEqual(found, Yard([COPY, WIDE, UNLIKE], yard.pipes, ((0, 2, 0), ("01", "1", ""))))
        self.assertEqual(exchanged(yard, 1, WIDE), Yard([COPY, WIDE, UNLIKE], yard.pipes, ((0, 0, 0), ("01", "1", ""))))
        self.assertEqual(exchanged(image=1, new=HALF, station=1, yard=yard), yard)
        self.same(yard.begin, ((0, 1, 0), ("01", "1", "")))

    def test_nothing_is_looked_through(self):
        for yard in (OVERVIEW, counting(61), doubling(5)):
            self.assertEqual(exchanged(yard, 0, yard.stations[0]), yard)
        self.same(swapped_end(OVERVIEW, 1, PASS, "0000", 0, 0), ((0, 0, 0), ("", "", ""), "", ("0000",)))
        self.same(len(swapped_end(OVERVIEW, 1, EATS, "0" * 900, 0, 0)[1][1]), 900)

    def test_many(self):
        dice = Dice(810)
        for _ in range(40):
            yard, station, new = some_parts(dice)
            image = dice.below(len(new))
            self.assertEqual(exchanged(yard, station, new, image), slow_exchanged(yard, station, new, image))


class Ends(Cases):
    def test_behind_none_some_and_all_beats(self):
        self.same([swapped_end(BASE, 0, TURN, "010", number, 0)[3] for number in range(4)],
                  [("101",), ("001",), ("011",), ("011",)])
        self.same([swapped_end(BASE, 0, TURN, "010", number, 0)[0] for number in range(4)], [(0,)] * 4)
        self.same(swapped_end(ROW, 1, HALF, "0110", 1, 1), ((0, 0), ("",), "", ("001",)))
        self.same(swapped_end(image=0, number=2, stream="0110", new=HALF, station=1, yard=ROW),
                  ((0, 0), ("",), "", ("011",)))

    def test_without_any_beat(self):
        self.same(swapped_end(BASE, 0, WIDE, "", 0, 2), ((2,), (), "", ("",)))
        begun = Yard([PASS, HALF], [(0, 0, 1, 0)], ((0, 0), ("010",)))
        self.same([swapped_end(begun, 1, TURN, "", number, 0) for number in range(4)],
                  [((0, 0), ("",), "", ("101",)), ((0, 0), ("",), "", ("01",)), ((0, 0), ("",), "", ("11",)),
                   ((0, 0), ("",), "", ("1",))])

    def test_many_by_drawn_sequences(self):
        dice = Dice(811)
        counts = [0, 0]
        for _ in range(120):
            yard = some_yard(dice, 3)
            station = dice.below(len(yard))
            there = yard.stations[station]
            new = some_station(dice, there.ins, there.outs)
            stream = dice.text(4)
            stands = beats_of_station(yard, station, stream)
            for number in few(list(range(len(stands))), 3):
                image = dice.below(len(new))
                found = swapped_end(yard, station, new, stream, number, image)
                self.same(found, slow_swapped_end(dice, yard, station, new, stream, number, image))
                self.same(found, slow_swapped_end(dice, yard, station, new, stream, number, image))
                counts[number > 0] += 1
            self.fails(errors.InvalidNumber, {"value": len(stands)}, swapped_end, yard, station, new, stream,
                       len(stands), 0)
        self.assertGreater(min(counts), 100)

    def test_a_swap_for_itself_is_none(self):
        dice = Dice(812)
        for _ in range(40):
            yard = some_yard(dice, 3)
            station = dice.below(len(yard))
            stream = dice.text(5)
            for number, standing in enumerate(beats_of_station(yard, station, stream)):
                self.same(swapped_end(yard, station, yard.stations[station], stream, number, standing),
                          end(yard, stream))

    def test_the_greatest_number_and_one_more(self):
        for number in range(4):
            swapped_end(BASE, 0, WIDE, "010", number, 0)
        for number in (4, 5, 10 ** 29):
            self.fails(errors.InvalidNumber, {"value": number}, swapped_end, BASE, 0, WIDE, "010", number, 0)
        self.fails(errors.InvalidNumber, {"value": 3}, swapped_end, Yard([HALF, PASS], [(0, 0, 1, 0)]), 1, TURN,
                   "0100", 3, 0)
        self.fails(errors.InvalidNumber, {"value": 1}, swapped_end, BASE, 0, WIDE, "", 1, 0)

    def test_too_many_beats(self):
        beats = {"what": "beats", "limit": 20000}
        loud = doubling(4)
        # 31 beats for each sign: 645 of them make 19,995, and 646 make 20,026.
        self.same(len(full_run(loud, "0" * 645)), 19995)
        self.same(swapped_end(loud, 4, PASS, "0" * 645, 645 * 16, 0)[0], (0,) * 5)
        self.fails(errors.TooMany, beats, swapped_end, loud, 4, PASS, "0" * 646, 0, 0)
        self.fails(errors.TooMany, beats, swapped_end, doubling(5), 0, TWICE, "0" * 1000, 1000, 0)
        # A number above that of the beats of the station is told first.
        self.fails(errors.InvalidNumber, {"value": 1001}, swapped_end, doubling(5), 0, TWICE, "0" * 1000, 1001, 0)
        self.fails(errors.InvalidNumber, {"value": 2001}, swapped_end, doubling(5), 1, TWICE, "0" * 1000, 2001, 0)
        self.fails(errors.TooMany, beats, swapped_end, doubling(5), 1, TWICE, "0" * 1000, 2000, 0)
        # Here a full run has few beats, and what is done behind the swap has many.
        silent = Yard([EATS, *loud.stations, PASS], [(k, 0, k + 1, 0) for k in range(6)])
        self.fails(errors.TooMany, beats, swapped_end, silent, 0, TWICE, "0" * 1000, 0, 0)
        self.fails(errors.TooMany, beats, swapped_end, silent, 0, TWICE, "0" * 1000, 500, 0)
        self.same(swapped_end(silent, 0, TWICE, "0" * 1000, 900, 0)[3], ("0" * 3200,))
        self.same(swapped_end(silent, 0, PASS, "0" * 1000, 1000, 0)[3], ("",))
        # And here the other way round: what is not swapped has too many.
        self.fails(errors.TooMany, beats, swapped_end, doubling(5), 0, EATS, "0" * 1000, 0, 0)


class Moments(Cases):
    def test_some(self):
        self.same([moments(BASE, 0, 0), moments(HOLDS, 0, 0), moments(HOLDS, 0, 2)],
                  [[((0,), ())], [((0,), ())], [((2,), ())]])
        self.same(moments(ROW, 1, 0), [((0, 0), ("",)), ((0, 0), ("0",)), ((0, 0), ("1",))])
        self.same(moments(standing=0, station=0, yard=ROW), [((0, 0), ("",))])
        twice = Yard([TWICE, PASS], [(0, 0, 1, 0)])
        self.same(moments(twice, 1, 0), [((0, 0), ("",)), ((0, 0), ("0",)), ((0, 0), ("00",)), ((0, 0), ("1",)),
                                         ((0, 0), ("11",))])
        self.same(moments(twice, 0, 0), [((0, 0), ("",))])

    def test_standings_that_are_never_come_to(self):
        far = Yard([Station(1, 1, [("1", [(("0",), 0, 1)] * 2), ("1", [(("1",), 0, 1)] * 2)])], [])
        self.same([moments(far, 0, 0), moments(far, 0, 1)], [[((0,), ())], []])

    def test_what_is_there_at_the_beginning(self):
        begun = Yard([PASS, HALF, PASS], [(0, 0, 1, 0), (1, 0, 2, 0)], ((0, 0, 0), ("010", "11")))
        self.same(moments(begun, 1, 1), [((0, 1, 0), (text, "")) for text in ("", "0", "1", "10")])
        self.same(moments(begun, 2, 0)[:3], [((0, 0, 0), ("", "")), ((0, 0, 0), ("", "0")), ((0, 0, 0), ("", "1"))])
        # Of the three signs there the second one is passed, and stands behind what was there.
        self.same([moment for moment in moments(begun, 2, 0) if moment[1][1][:2] == "11"],
                  [((0, 1, 0), ("", "11")), ((0, 1, 0), ("", "111"))])

    def test_more_than_three_signs_may_wait(self):
        loud = Yard([TWICE, TWICE, TWICE, PASS], [(k, 0, k + 1, 0) for k in range(3)])
        self.same(len(moments(loud, 3, 0)), 17)
        self.assertIn(((0, 0, 0, 0), ("", "", "0" * 8)), moments(loud, 3, 0))

    def test_many_by_all_runs_of_all_short_streams(self):
        dice = Dice(821)
        many = 0
        for _ in range(70):
            yard, station, _ = some_parts(dice, rests=4)
            for standing in range(len(yard.stations[station])):
                found = moments(yard, station, standing)
                self.same(found, slow_moments(yard, station, standing, 5))
                many = max(many, len(found))
        self.assertGreater(many, 5)


class Errors(Cases):
    def test_stations_and_new_ones(self):
        calls = [lambda *told: exchanged(*told, None), images, lambda *told: swapped_end(*told, None, None, None),
                 lambda *told: is_kept(*told, None, None), lambda *told: kept_paper(*told, None, None),
                 lambda *told: least_break(*told, None, None)]
        for call in calls:
            self.fails_on(errors.InvalidStation, no_counts() + [1], lambda value: call(BASE, value, None))
            self.fails_on(errors.InvalidNew, NO_NEWS, lambda value: call(BASE, 0, value))
            self.fails_on(errors.InvalidStation, [3, None], lambda value: call(OVERVIEW, value, None))
            self.fails_on(errors.InvalidNew, [UNLIKE, PASS, BY_TURNS, None], lambda value: call(OVERVIEW, 0, value))
        self.fails_on(errors.InvalidStation, no_counts() + [1], lambda value: moments(BASE, value, None))
        self.assertEqual(exchanged(OVERVIEW, 2, BY_TURNS).stations[2], BY_TURNS)

    def test_standings_and_images(self):
        wrong = no_counts() + [2, 10 ** 29]
        self.fails_on(errors.InvalidStanding, wrong, lambda value: moments(BASE, 0, value))
        for call in (is_kept, kept_paper, least_break):
            self.fails_on(errors.InvalidStanding, wrong, lambda value: call(BASE, 0, WIDE, value, None))
            self.fails_on(errors.InvalidImage, no_counts() + [3], lambda value: call(BASE, 0, WIDE, 1, value))
            self.fails_on(errors.InvalidImage, [1, None], lambda value: call(OVERVIEW, 1, PASS, 0, value))
            self.fails(errors.InvalidImage, {"value": 2}, call, image=2, standing=0, new=PARITY, station=0, yard=BASE)
        self.fails_on(errors.InvalidImage, no_counts() + [3], lambda value: exchanged(BASE, 0, WIDE, value))
        self.same(exchanged(BASE, 0, WIDE, 2).begin, ((2,), ()))

    def test_the_sequence_of_swapped_end(self):
        self.fails_on(errors.InvalidStream, no_texts() + ["0" * 1001],
                      lambda value: swapped_end(BASE, 0, WIDE, value, None, None))
        self.fails_on(errors.InvalidNumber, no_counts(), lambda value: swapped_end(BASE, 0, WIDE, "0", value, None))
        self.fails_on(errors.InvalidImage, no_counts() + [3], lambda value: swapped_end(BASE, 0, WIDE, "0", 5, value))
        self.fails(errors.InvalidNumber, {"value": 2}, swapped_end, image=0, number=2, stream="0", new=WIDE, station=0,
                   yard=BASE)

    def test_looking_through(self):
        fails_looking(self, lambda yard: moments(yard, 0, 0))
        fails_looking(self, lambda yard: images(yard, 0, yard.stations[0]))
        for call in (is_kept, kept_paper, least_break):
            fails_looking(self, lambda yard: call(yard, 0, yard.stations[0], 0, 0))
        self.fails(errors.InvalidStanding, {"value": 1}, moments, OVERVIEW, 0, 1)

    def test_nothing_is_changed(self):
        found = moments(ROW, 1, 0)
        before = repr(found)
        found.clear()
        self.assertEqual(repr(moments(ROW, 1, 0)), before)
        images(BASE, 0, WIDE).clear()
        images(BASE, 0, WIDE)[0].append(9)
        self.same([images(BASE, 0, WIDE), BASE.stations], [{0: [0, 2], 1: [1]}, [PARITY]])


if __name__ == "__main__":
    unittest.main()

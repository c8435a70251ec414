"""[44], [46]: least sizes, what can be spared, and how full the pipes get."""

import unittest
from itertools import product

from flowyard import errors
from flowyard.room import are_enough, fullest, least_sizes, room_list, spare, still_stream
from flowyard.runs import is_run
from flowyard.yards import Station, Yard
from helper import (COPY, EATS, HALF, OVERVIEW, PASS, ROW, TWICE, Cases, Dice, odd_values, slow_full_runs,
                    some_sizes, some_yard)
from slow_sizes import slow_fullest, slow_still
from some_yards import BOTH, COPIES, HELD_BY_TWO, HOLDS, TWO_WAYS, UNEVEN, counting, fourfold
from spoiling import no_sizes

# Just 2,000 states with these sizes, and one more.
MOST_STATES = (Yard([HALF, HALF, EATS, PASS, PASS], [(k, 0, k + 1, 0) for k in range(4)],
                    ((0,) * 5, ("000", "1", "110", "100"))), (2, 2, 2, 1))
ONE_STATE_MORE = (Yard([TWICE, TWICE, PASS, HALF, TWICE], [(k, 0, k + 1, 0) for k in range(4)],
                       ((0,) * 5, ("", "01", "", "1"))), (3, 3, 3, 3))


def some_small(dice, pipes):
    """A yard with at most so many pipes of which the greatest sizes have few rests."""
    while True:
        yard = some_yard(dice, 4)
        try:
            if len(yard.pipes) <= pipes and still_stream(yard, (3,) * len(yard.pipes)) != "":
                return yard
        except errors.TooMany:
            pass


class LeastSizes(Cases):
    def test_the_documents_yard(self):
        self.same(least_sizes(HELD_BY_TWO), [(1, 2, 2)])

    def test_without_pipes(self):
        self.same([least_sizes(COPIES), least_sizes(HOLDS)], [[()], [()]])

    def test_none_are_enough(self):
        self.same([least_sizes(OVERVIEW), least_sizes(Yard([UNEVEN, BOTH], [(0, 0, 1, 0), (0, 1, 1, 1)]))], [[], []])

    def test_several(self):
        self.same(least_sizes(TWO_WAYS), [(2, 2, 1, 2), (2, 3, 1, 1)])
        for sizes in least_sizes(TWO_WAYS):
            self.same(slow_still(TWO_WAYS, sizes, 6), None)

    def test_each_size_is_needed(self):
        self.same(least_sizes(Yard([PASS, TWICE, PASS], [(0, 0, 1, 0), (1, 0, 2, 0)])), [(1, 2)])
        self.same(least_sizes(yard=ROW), [(1,)])
        self.same(least_sizes(counting(60)), [(1, 1, 1)])
        # The first sign in the pipe needs no room, the second one does.
        begun = Yard([PASS, TWICE, PASS], [(0, 0, 1, 0), (1, 0, 2, 0)], ((0, 0, 0), ("011", "0")))
        self.same(least_sizes(begun), [(1, 2)])

    def test_many_yards(self):
        dice = Dice(441)
        for _ in range(80):
            yard = some_small(dice, 3)
            found = least_sizes(yard)
            enough = [sizes for sizes in product((1, 2, 3), repeat=len(yard.pipes)) if slow_still(yard, sizes, 4) is None]
            for sizes in found:
                self.assertIn(sizes, enough)
                for at, size in enumerate(sizes):
                    if size > 1:
                        lesser = sizes[:at] + (size - 1,) + sizes[at + 1:]
                        self.same(are_enough(yard, lesser), False)
            for sizes in product((1, 2, 3), repeat=len(yard.pipes)):
                above = any(all(one <= other for one, other in zip(least, sizes)) for least in found)
                self.same(are_enough(yard, sizes), above)

    def test_more_room_never_harms(self):
        dice = Dice(442)
        for _ in range(40):
            yard = some_small(dice, 3)
            enough = [sizes for sizes in product((1, 2, 3), repeat=len(yard.pipes)) if are_enough(yard, sizes)]
            for sizes in enough:
                for at, size in enumerate(sizes):
                    greater = sizes[:at] + (min(3, size + 1),) + sizes[at + 1:]
                    self.assertIn(greater, enough)
                    self.same(room_list(yard, greater), room_list(yard, sizes))

    def test_four_pipes_and_five(self):
        four = Yard([PASS] * 5, [(k, 0, k + 1, 0) for k in range(4)])
        five = Yard([PASS] * 6, [(k, 0, k + 1, 0) for k in range(5)])
        self.same(least_sizes(four), [(1, 1, 1, 1)])
        self.fails(errors.TooMany, {"what": "pipes", "limit": 4}, least_sizes, five)
        self.fails(errors.TooMany, {"what": "pipes", "limit": 4}, least_sizes, fourfold(7))

    def test_the_greatest_sizes_are_looked_through(self):
        self.fails(errors.TooMany, {"what": "rests", "limit": 60}, least_sizes, counting(61))
        double = Station(2, 2, [("12", [(("00", "00"), 0, 1)] * 4)])
        self.same(least_sizes(Yard([COPY, double, BOTH], [(0, 0, 1, 0), (0, 1, 1, 1), (1, 0, 2, 0), (1, 1, 2, 1)])),
                  [(1, 1, 2, 2)])

    def test_returned_lists_are_new(self):
        least_sizes(HELD_BY_TWO).clear()
        self.same(least_sizes(HELD_BY_TWO), [(1, 2, 2)])


class Spare(Cases):
    def test_the_documents_yard(self):
        self.same([spare(HELD_BY_TWO, sizes) for sizes in [(1, 3, 2), (1, 2, 2), (2, 2, 2), (3, 3, 3)]],
                  [[1], [], [0], [0, 1, 2]])
        self.same(spare(sizes=(), yard=COPIES), [])

    def test_all_others_being_as_they_are(self):
        self.same([spare(TWO_WAYS, sizes) for sizes in [(2, 2, 1, 2), (2, 3, 1, 1), (2, 3, 1, 2), (3, 3, 1, 2), (2, 2, 2, 3)]],
                  [[], [], [1, 3], [0, 1, 3], [2, 3]])

    def test_not_enough_behind_looking_through(self):
        self.fails(errors.NotEnough, {"stream": "00"}, spare, HELD_BY_TWO, (1, 1, 3))
        self.fails(errors.NotEnough, {"stream": "0"}, spare, Yard([TWICE, PASS], [(0, 0, 1, 0)]), (1,))
        self.fails(errors.TooMany, {"what": "rests", "limit": 60}, spare, counting(61), (2, 2, 2))
        gate = Station(1, 1, [("1", [(("0",), 0, 1), (("00",), 0, 1)])])
        for rests, error, attributes in [(60, errors.NotEnough, {"stream": "1"}),
                                         (61, errors.TooMany, {"what": "rests", "limit": 60})]:
            yard = counting(rests)
            self.fails(error, attributes, spare, Yard([gate, *yard.stations[1:]], yard.pipes, yard.begin), (1, 1, 1))
        self.fails(errors.TooMany, {"what": "beats", "limit": 20000}, spare, fourfold(7), (2,) * 14)
        self.fails(errors.NotEnough, {"stream": "0"}, spare, fourfold(7), (1,) * 14)
        begun = Yard([PASS, TWICE, PASS], [(0, 0, 1, 0), (1, 0, 2, 0)], ((0, 0, 0), ("1", "")))
        self.fails(errors.NotEnough, {"stream": ""}, spare, yard=begun, sizes=(3, 1))

    def test_many_yards(self):
        dice = Dice(443)
        for _ in range(80):
            yard = some_small(dice, 3)
            sizes = some_sizes(dice, yard)
            still = still_stream(yard, sizes)
            if still is not None:
                self.fails(errors.NotEnough, {"stream": still}, spare, yard, sizes)
                continue
            wanted = [at for at, size in enumerate(sizes) if size > 1
                      and are_enough(yard, sizes[:at] + (size - 1,) + sizes[at + 1:])]
            self.same(spare(yard, sizes), wanted)
            for at in wanted:
                self.same(slow_still(yard, sizes[:at] + (sizes[at] - 1,) + sizes[at + 1:], 4), None)

    def test_sizes(self):
        for call in (spare, fullest):
            self.fails_on(errors.InvalidSizes, no_sizes(ROW), lambda value: call(ROW, value))
            self.fails_on(errors.InvalidSizes, odd_values(), lambda value: call(sizes=value, yard=counting(61)))
            self.fails(errors.InvalidSizes, {"value": None}, call, COPIES, None)


class Fullest(Cases):
    def test_the_documents_yard(self):
        self.same([fullest(HELD_BY_TWO, sizes) for sizes in [(1, 2, 2), (3, 3, 3), (1, 1, 3), (1, 3, 2)]],
                  [(1, 2, 2), (3, 3, 3), (1, 1, 0), (1, 3, 2)])
        self.same(fullest(COPIES, ()), ())

    def test_the_beginning_counts(self):
        full = ROW.begun(((0, 0), ("010",)))
        self.same([fullest(full, (size,)) for size in (1, 2, 3)], [(3,), (3,), (3,)])
        self.same([fullest(ROW, (size,)) for size in (1, 2, 3)], [(1,), (2,), (3,)])
        self.same(fullest(yard=ROW.begun(((0, 0), ("01",))), sizes=(1,)), (2,))

    def test_pipes_into_which_nothing_comes(self):
        self.same(fullest(Yard([EATS, PASS], [(0, 0, 1, 0)]), (3,)), (0,))
        self.same(fullest(Yard([TWICE, PASS], [(0, 0, 1, 0)]), (1,)), (0,))
        self.same(fullest(Yard([TWICE, PASS], [(0, 0, 1, 0)]), (3,)), (3,))

    def test_of_all_runs_not_of_full_ones_alone(self):
        yard = Yard([TWICE, HALF], [(0, 0, 1, 0)])
        self.same([fullest(yard, (2,)), fullest(yard, (3,))], [(2,), (3,)])

    def test_also_if_they_are_not_enough(self):
        self.same(fullest(OVERVIEW, (1, 3, 1)), slow_fullest(OVERVIEW, (1, 3, 1), 500))
        self.same(fullest(fourfold(7), (1,) * 14), (0,) * 14)

    def test_two_thousand_states_and_one_more(self):
        self.same(fullest(*MOST_STATES), slow_fullest(*MOST_STATES, 2000))
        self.fails(errors.TooMany, {"what": "states", "limit": 2000}, fullest, *ONE_STATE_MORE)
        self.same([slow_fullest(*ONE_STATE_MORE, 2000) is None, slow_fullest(*MOST_STATES, 1999) is None], [True, True])
        self.fails(errors.TooMany, {"what": "states", "limit": 2000}, fullest, counting(60), (3, 3, 3))
        self.fails(errors.TooMany, {"what": "states", "limit": 2000}, fullest, fourfold(7), (2,) * 14)

    def test_many_yards(self):
        dice = Dice(461)
        for _ in range(80):
            yard = some_yard(dice, 3)
            sizes = some_sizes(dice, yard)
            wanted = slow_fullest(yard, sizes, 300)
            if wanted is not None:
                self.same(fullest(yard, sizes), wanted)

    def test_with_these_numbers_as_sizes_there_are_the_same_runs(self):
        dice = Dice(462)
        for _ in range(40):
            yard = some_yard(dice, 3)
            sizes = some_sizes(dice, yard)
            if any(len(text) > size for text, size in zip(yard.begin[1], sizes)):
                continue
            if slow_fullest(yard, sizes, 300) is not None:
                needed = tuple(max(1, many) for many in fullest(yard, sizes))
                self.assertLessEqual(max([0] + [one - other for one, other in zip(needed, sizes)]), 0)
                for stream in ("", "01", dice.text(4)):
                    for run, _ in slow_full_runs(yard, stream, sizes, 60) or []:
                        self.assertIs(is_run(yard, stream, run, needed), True)


if __name__ == "__main__":
    unittest.main()

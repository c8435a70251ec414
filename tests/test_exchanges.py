"""[16]: exchanges of neighbours that lead from one full run to another one, and how many there are."""

import unittest

from flowyard import errors
from flowyard.needs import are_exchanges, exchanges, how_many_full
from flowyard.runs import full_run, is_run
from flowyard.yards import Yard
from helper import (COPY, HALF, OVERVIEW, PASS, ROW, TWICE, Cases, Dice, no_counts, no_texts, odd_values,
                    slow_full_run, slow_full_runs, some_sizes, some_yard)
from orders import beats_of, slow_needs, slow_sets

THREE = Yard([COPY, COPY, PASS, PASS], [(0, 0, 1, 0), (0, 1, 2, 0), (1, 0, 3, 0)],
             ((0, 0, 0, 0), ("0", "11", "1")))
TWO_RUNS = ([0, 0, 1, 1], [0, 1, 0, 1])
# Of just 5,000 and of 5,001 sets of beats that can have been done.
MOST_SETS = Yard([COPY, COPY, HALF, HALF, HALF], [(0, 0, 1, 0), (1, 1, 2, 0), (2, 0, 3, 0), (3, 0, 4, 0)],
                 ((0, 0, 0, 0, 0), ("", "0", "0", "000")))
ONE_MORE = Yard([COPY, TWICE, PASS, COPY, PASS], [(0, 0, 1, 0), (0, 1, 2, 0), (1, 0, 3, 0), (3, 1, 4, 0)],
                ((0, 0, 0, 0, 0), ("0", "0", "000", "00")))


def inversions(one, other):
    """How many pairs of beats stand the other way round."""
    ranks = [beats_of(other).index(beat) for beat in beats_of(one)]
    return sum(1 for at in range(len(ranks)) for ahead in range(at) if ranks[ahead] > ranks[at])


def exchanged(yard, stream, sizes, run, places):
    """What the exchanges make of the run, each of them judged as a run; None if one is not allowed."""
    run = list(run)
    for place in places:
        if not 0 <= place < len(run) - 1 or run[place] == run[place + 1]:
            return None
        run[place:place + 2] = [run[place + 1], run[place]]
        if not is_run(yard, stream, run, sizes):
            return None
    return run


def some_few_runs(dice):
    """A yard, a stream, sizes or None, and its full runs, which are from two to two hundred."""
    while True:
        yard = some_yard(dice, 4)
        stream = dice.text(4)
        sizes = dice.one_of([None, some_sizes(dice, yard)])
        runs = slow_full_runs(yard, stream, sizes, 200)
        if runs is not None and len(runs) > 1:
            return yard, stream, sizes, [run for run, _ in runs]


class Exchanges(Cases):
    def test_the_documents_yard(self):
        self.same(exchanges(ROW, "01", [0, 0, 1, 1], [0, 1, 0, 1]), [1])
        self.same(exchanges(ROW, "01", [0, 1, 0, 1], [0, 0, 1, 1]), [1])
        self.same(exchanges(ROW, "01", (0, 1, 0, 1), (0, 0, 1, 1)), [1])
        self.same(exchanges(ROW, "01", [0, 1, 0, 1], [0, 1, 0, 1]), [])
        self.same(exchanges(ROW, "01", [0, 1, 0, 1], [0, 1, 0, 1], (1,)), [])
        self.same(exchanges(ROW, "", [], []), [])

    def test_the_fewest_are_as_many_as_pairs_that_stand_the_other_way(self):
        one = [0, 0, 0, 0, 1, 1, 1, 1]
        other = [0, 1, 0, 1, 0, 1, 0, 1]
        for start, goal in [(one, other), (other, one)]:
            found = exchanges(ROW, "0000", start, goal)
            self.assertEqual(len(found), 6)
            self.assertEqual(exchanged(ROW, "0000", None, start, found), goal)

    def test_there_and_back_in_many_yards(self):
        dice = Dice(21)
        for _ in range(120):
            yard, stream, sizes, runs = some_few_runs(dice)
            one, other = dice.one_of(runs), dice.one_of(runs)
            for start, goal in [(one, other), (other, one)]:
                found = exchanges(yard, stream, start, goal, sizes)
                self.assertIsInstance(found, list)
                self.assertEqual(len(found), inversions(one, other))
                self.assertEqual(exchanged(yard, stream, sizes, start, found), goal)
                self.assertIs(are_exchanges(yard, stream, start, goal, found, sizes), True)

    def test_sixty_beats(self):
        stream = "0" * 30
        far = [0] * 30 + [1] * 30
        near = [0, 1] * 30
        found = exchanges(ROW, stream, near, far)
        self.assertEqual(len(found), 29 * 30 // 2)
        self.assertIs(are_exchanges(ROW, stream, near, far, found), True)
        self.assertIs(are_exchanges(ROW, stream, far, near, found[::-1]), True)
        self.assertIs(are_exchanges(ROW, stream, near, far, found[:-1]), False)


class AreExchanges(Cases):
    def test_places(self):
        for value in [[1], (1,), [1, 1, 1], [1] * 9]:
            self.assertIs(are_exchanges(ROW, "01", *TWO_RUNS, value), True)
            self.assertIs(are_exchanges(ROW, "01", *TWO_RUNS[::-1], value), True)
        for value in [[], [0], [2], [3], [4], [-1], [-3], [1, 1], [1, 0], [0, 1], [2, 1], [1, 3], [1] * 10]:
            self.assertIs(are_exchanges(ROW, "01", *TWO_RUNS, value), False)

    def test_from_a_run_to_itself(self):
        for value in [[], (), [1, 1]]:
            self.assertIs(are_exchanges(ROW, "01", *TWO_RUNS[:1] * 2, value), True)
        self.assertIs(are_exchanges(ROW, "01", *TWO_RUNS[:1] * 2, [1]), False)
        self.assertIs(are_exchanges(ROW, "", [], [], []), True)
        for value in [[0], [-1], [1]]:
            self.assertIs(are_exchanges(ROW, "", [], [], value), False)
        self.assertIs(are_exchanges(Yard([PASS], []), "0", [0], [0], [0]), False)

    def test_elements_that_are_alike_are_not_exchanged(self):
        self.assertIs(are_exchanges(ROW, "01", [0, 0, 1, 1], [0, 0, 1, 1], [0]), False)
        self.assertIs(are_exchanges(ROW, "01", [0, 0, 1, 1], [0, 0, 1, 1], [0, 0]), False)
        self.assertIs(are_exchanges(Yard([PASS], []), "00", [0, 0], [0, 0], [0]), False)

    def test_with_sizes(self):
        self.assertIs(are_exchanges(ROW, "01", [0, 1, 0, 1], [0, 1, 0, 1], [1, 1], (2,)), True)
        self.assertIs(are_exchanges(ROW, "01", [0, 1, 0, 1], [0, 1, 0, 1], [1, 1], (1,)), False)

    def test_any_value_is_asked(self):
        for value in odd_values() + [0, 1, "", "1", {1: 1}, {1}]:
            self.assertIs(are_exchanges(ROW, "01", *TWO_RUNS, value), False)
            self.assertIs(are_exchanges(ROW, "01", *TWO_RUNS[:1] * 2, value), False)
        for value in no_counts() + [10 ** 29]:
            self.assertIs(are_exchanges(ROW, "01", *TWO_RUNS, [1, value, 1]), False)
        for value in [[True], (True,), [1, True, 1], [1, 1, True]]:
            self.assertIs(are_exchanges(ROW, "01", *TWO_RUNS, value), False)

    def test_any_places_in_many_yards(self):
        dice = Dice(22)
        seen = []
        for _ in range(300):
            yard, stream, sizes, runs = some_few_runs(dice)
            one, other = dice.one_of(runs), dice.one_of(runs)
            places = [dice.below(len(one)) - dice.below(2) for _ in range(1 + dice.below(3))]
            wanted = exchanged(yard, stream, sizes, one, places)
            self.assertIs(are_exchanges(yard, stream, one, other, places, sizes), wanted == other)
            if wanted is not None:
                self.assertIs(are_exchanges(yard, stream, one, wanted, places, sizes), True)
            seen.append(wanted is not None)
        self.assertGreater(min(seen.count(True), seen.count(False)), 50)


class HowMany(Cases):
    def test_the_documents_yards(self):
        self.same(how_many_full(ROW, "01"), 2)
        self.same(how_many_full(ROW, "01", (1,)), 1)
        self.same(how_many_full(ROW, ""), 1)
        self.same(how_many_full(OVERVIEW, "0000", (1, 1, 1)), 1)
        self.same(how_many_full(THREE, ""), len(slow_full_runs(THREE, "", None, 5000)))

    def test_pairs_in_a_row(self):
        # As many as ways to write n pairs of brackets.
        self.same([how_many_full(ROW, "0" * many) for many in range(9)], [1, 1, 2, 5, 14, 42, 132, 429, 1430])
        self.same(how_many_full(ROW, "0" * 30), 3814986502092304)

    def test_beats_that_have_nothing_to_do_with_each_other(self):
        yard = Yard([COPY, COPY, PASS], [(0, 0, 1, 0), (0, 1, 2, 0)], ((0, 0, 0), ("000", "000")))
        self.same(how_many_full(yard, ""), 20)
        self.same(how_many_full(yard, "", (1, 2)), 20)

    def test_many_yards(self):
        dice = Dice(23)
        for _ in range(150):
            yard, stream, sizes, runs = some_few_runs(dice)
            self.same(how_many_full(yard, stream, sizes), len(runs))

    def test_sets_of_beats(self):
        many = {"what": "sets", "limit": 5000}
        self.assertEqual(len(slow_sets(slow_needs(MOST_SETS, "0" * 10, None))), 5000)
        self.assertEqual(len(slow_sets(slow_needs(ONE_MORE, "0" * 4, None))), 5001)
        found = how_many_full(MOST_SETS, "0" * 10)
        self.assertGreater(found, 10 ** 9)
        self.assertIs(found.__class__, int)
        self.fails(errors.TooMany, many, how_many_full, ONE_MORE, "0" * 4)
        self.fails(errors.TooMany, many, how_many_full, ONE_MORE, "0" * 5)
        self.assertGreater(how_many_full(ONE_MORE, "0" * 3), 10 ** 9)


class Errors(Cases):
    def test_streams_and_sizes(self):
        for value in no_texts() + ["0" * 1001]:
            self.fails(errors.InvalidStream, {"value": value}, exchanges, ROW, value, None, None, 7)
            self.fails(errors.InvalidStream, {"value": value}, are_exchanges, ROW, value, None, None, [], 7)
            self.fails(errors.InvalidStream, {"value": value}, how_many_full, ROW, value, 7)
        for value in odd_values()[1:] + [0, "1", [1], (), (0,), (4,), (1, 1), (True,)]:
            self.fails(errors.InvalidSizes, {"value": value}, exchanges, ROW, "01", None, [1], value)
            self.fails(errors.InvalidSizes, {"value": value}, are_exchanges, ROW, "01", None, [1], [], value)
            self.fails(errors.InvalidSizes, {"value": value}, how_many_full, ROW, "01", value)

    def wrong_run(self, position, one, other, stream="01", sizes=None):
        with self.subTest(one=repr(one), other=repr(other)):
            self.fails(errors.InvalidRun, {"position": position}, exchanges, ROW, stream, one, other, sizes)
            self.fails(errors.InvalidRun, {"position": position}, are_exchanges, ROW, stream, one, other, [], sizes)

    def test_no_lists(self):
        for value in odd_values() + [0, "0011", {0: 0}]:
            self.wrong_run(None, value, [0, 0, 1, 1])
            self.wrong_run(None, [0, 0, 1, 1], value)

    def test_the_first_wrong_element(self):
        for value in no_counts() + [2]:
            self.wrong_run(1, [0, value, 1, None], [1])
            self.wrong_run(1, [0, 0, 1, 1], [0, value, 1, None])
        self.wrong_run(4, [0, 0, 1, 1, 1], [])
        self.wrong_run(0, [0, 0, 1, 1], [1, 0, 0, 1])
        self.wrong_run(1, [0, 0, 1, 1], [0, 1, 0, 1], "01", (1,))

    def test_runs_that_are_not_full(self):
        for value in [[], [0], [0, 1, 0], (0, 0, 1)]:
            self.wrong_run(None, value, [0, 0, 1, 1])
            self.wrong_run(None, value, [1])
            self.wrong_run(None, [0, 0, 1, 1], value)
        self.wrong_run(1, [0, 2], [])
        self.wrong_run(0, [0, 0, 1, 1], [0, 1, 0, 1], "", None)

    def test_more_than_sixty_beats_behind_wrong_runs(self):
        many = {"what": "beats", "limit": 60}
        stream = "0" * 31
        run = full_run(ROW, stream)
        self.fails(errors.TooMany, many, exchanges, ROW, stream, run, run)
        self.fails(errors.TooMany, many, are_exchanges, ROW, stream, run, run, None)
        self.fails(errors.TooMany, many, how_many_full, ROW, stream)
        self.fails(errors.InvalidRun, {"position": 0}, exchanges, ROW, stream, [1], run)
        self.fails(errors.InvalidRun, {"position": None}, are_exchanges, ROW, stream, run, run[1:-1][:1], [])
        yard = Yard([PASS], [])
        self.same(how_many_full(yard, "0" * 60), 1)
        self.same(exchanges(yard, "0" * 60, [0] * 60, [0] * 60), [])
        self.fails(errors.TooMany, many, how_many_full, yard, "0" * 61)
        self.fails(errors.TooMany, many, exchanges, yard, "0" * 61, [0] * 61, [0] * 61)
        self.fails(errors.TooMany, many, are_exchanges, yard, "0" * 61, [0] * 61, [0] * 61, [])

    def test_too_many_beats_ahead_of_too_many_sets(self):
        self.fails(errors.TooMany, {"what": "beats", "limit": 60}, how_many_full, ONE_MORE, "0" * 12)

    def test_by_name(self):
        named = {"yard": ROW, "stream": "01", "one": TWO_RUNS[0], "other": TWO_RUNS[1], "sizes": None}
        self.same([exchanges(**named), are_exchanges(value=[1], **named)], [[1], True])
        self.same(how_many_full(sizes=(1,), stream="01", yard=ROW), 1)

    def test_what_was_passed_or_returned_may_be_changed(self):
        one, other = list(TWO_RUNS[0]), list(TWO_RUNS[1])
        found = exchanges(ROW, "01", one, other)
        found.append(7)
        places = [1]
        are_exchanges(ROW, "01", one, other, places)
        self.same([one, other, places], [[0, 0, 1, 1], [0, 1, 0, 1], [1]])
        self.same(exchanges(ROW, "01", one, other), [1])


class Last(Cases):
    def test_any_two_ways_of_choosing_are_joined_by_exchanges(self):
        dice = Dice(24)
        for _ in range(60):
            yard = some_yard(dice, 5)
            stream = dice.text(6)
            one, _ = slow_full_run(yard, stream, None, min)
            other, _ = slow_full_run(yard, stream, None, max)
            if len(one) <= 60:
                found = exchanges(yard, stream, one, other)
                self.assertEqual(exchanged(yard, stream, None, one, found), other)


if __name__ == "__main__":
    unittest.main()

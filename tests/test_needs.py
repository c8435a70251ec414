"""[15]: the beats of a stream, what they need, chains, and runs that put one beat ahead of another."""

import unittest

from flowyard import errors
from flowyard.needs import beats, chain, is_chain, is_run_against, must_be_ahead, needs, run_against
from flowyard.runs import full_run, is_full
from flowyard.yards import Station, Yard
from helper import (BY_TURNS, COPY, EATS, HALF, OVERVIEW, PASS, ROW, SPLIT, TWICE, UNLIKE, Cases, Dice, no_counts,
                    no_texts, odd_values, slow_full_runs, some_sizes, some_yard)
from orders import all_needed, beats_of, slow_needs

TO_TWO = Yard([COPY, PASS, PASS], [(0, 0, 1, 0), (0, 1, 2, 0)])
OF_ONE = Yard([COPY, UNLIKE], [(0, 0, 1, 0), (0, 1, 1, 1)])
ALL = (beats, needs, must_be_ahead, chain, is_chain, run_against, is_run_against)
TOLD = {beats: (), needs: ((0, 0),), must_be_ahead: ((0, 0), (0, 1)), chain: ((0, 0), (0, 1)),
        is_chain: ((0, 0), (0, 1), []), run_against: ((0, 0), (0, 1)), is_run_against: ((0, 0), (0, 1), [])}


def some_small(dice):
    """A yard, a stream and sizes or None, of which there are not too many beats for these tests."""
    while True:
        yard = some_yard(dice, 4)
        stream = dice.text(4)
        sizes = dice.one_of([None, some_sizes(dice, yard)])
        if len(full_run(yard, stream, sizes)) <= 14:
            return yard, stream, sizes


class Beats(Cases):
    def test_all_that_can_be_done(self):
        self.same(beats(ROW, "01"), [(0, 0), (0, 1), (1, 0), (1, 1)])
        self.same(beats(ROW, ""), [])
        self.same(beats(ROW, "", (1,)), [])
        self.same(beats(OVERVIEW, "011"), [(0, 0), (0, 1), (0, 2), (1, 0), (1, 1), (1, 2), (2, 0)])
        self.same(beats(TO_TWO, "1"), [(0, 0), (1, 0), (2, 0)])

    def test_from_the_beginning_that_is_told(self):
        self.same(beats(ROW.begun(((0, 0), ("10",))), ""), [(1, 0), (1, 1)])
        self.same(beats(ROW.begun(((0, 0), ("1",))), "0"), [(0, 0), (1, 0), (1, 1)])
        self.same(beats(OVERVIEW.begun(((0, 1, 0), ("", "", ""))), "0"), [(0, 0), (1, 0), (2, 0)])

    def test_with_sizes_it_may_stand_still(self):
        self.same(beats(OVERVIEW, "0000", (1, 1, 1)), [(0, 0), (1, 0)])
        self.same(beats(OVERVIEW, "0000", (1, 2, 1)), [(0, 0), (0, 1), (0, 2), (1, 0), (1, 1), (1, 2), (2, 0)])
        self.same(beats(Yard([TWICE, PASS], [(0, 0, 1, 0)]), "00", (1,)), [])

    def test_more_than_ten_of_a_station(self):
        self.same(beats(Yard([PASS], []), "0" * 12), [(0, k) for k in range(12)])


class Needs(Cases):
    def test_the_beat_ahead_and_the_one_that_gave(self):
        for beat, needed in [((0, 0), []), ((0, 1), [(0, 0)]), ((1, 0), [(0, 0)]), ((1, 1), [(0, 1), (1, 0)])]:
            self.same(needs(ROW, "01", beat), needed)
            self.same(needs(ROW, "01", beat, None), needed)

    def test_each_once(self):
        self.same(needs(OF_ONE, "01", (1, 0)), [(0, 0)])
        self.same(needs(OF_ONE, "01", (1, 1)), [(0, 1), (1, 0)])
        self.same(needs(Yard([COPY, UNLIKE], OF_ONE.pipes), "01", (0, 1), (1, 1)), [(0, 0), (1, 0)])

    def test_of_two_lines(self):
        self.same(needs(OVERVIEW, "0110", (2, 0)), [(0, 0), (1, 1)])
        self.same(needs(OVERVIEW, "0110", (2, 1)), [(0, 1), (1, 3), (2, 0)])

    def test_none_for_what_was_there(self):
        yard = ROW.begun(((0, 0), ("10",)))
        self.same(needs(yard, "1", (1, 0)), [])
        self.same(needs(yard, "1", (1, 1)), [(1, 0)])
        self.same(needs(yard, "1", (1, 2)), [(0, 0), (1, 1)])
        self.same(needs(OVERVIEW.begun(((0, 0, 0), ("", "1", ""))), "01", (2, 0)), [(1, 1)])

    def test_only_lines_that_are_read(self):
        yard = Yard([COPY, BY_TURNS], OF_ONE.pipes)
        self.same([needs(yard, "01", (1, k)) for k in range(4)],
                  [[(0, 0)], [(0, 0), (1, 0)], [(0, 1), (1, 1)], [(0, 1), (1, 2)]])
        yard = Yard([SPLIT, UNLIKE], OF_ONE.pipes)
        self.same(needs(yard, "0110", (1, 1)), [(0, 2), (0, 3), (1, 0)])

    def test_two_signs_of_one_beat(self):
        yard = Yard([TWICE, PASS], [(0, 0, 1, 0)])
        self.same([needs(yard, "01", (1, k)) for k in range(4)],
                  [[(0, 0)], [(0, 0), (1, 0)], [(0, 1), (1, 1)], [(0, 1), (1, 2)]])

    def test_with_sizes_the_beat_that_makes_room(self):
        self.same([needs(ROW, "0000", (0, k), (1,)) for k in range(4)],
                  [[], [(0, 0), (1, 0)], [(0, 1), (1, 1)], [(0, 2), (1, 2)]])
        self.same([needs(ROW, "0000", (0, k), (3,)) for k in range(4)],
                  [[], [(0, 0)], [(0, 1)], [(0, 2), (1, 0)]])
        self.same(needs(ROW, "0000", (1, 2), (1,)), [(0, 2), (1, 1)])

    def test_of_several_the_last_one_alone(self):
        yard = Yard([TWICE, PASS], [(0, 0, 1, 0)])
        self.same(needs(yard, "011", (0, 1), (2,)), [(0, 0), (1, 1)])
        self.same(needs(yard, "011", (0, 2), (2,)), [(0, 1), (1, 3)])
        self.same(needs(yard, "011", (0, 1), (3,)), [(0, 0), (1, 0)])
        full = ROW.begun(((0, 0), ("010",)))
        self.same(needs(full, "0", (0, 0), (1,)), [(1, 2)])
        self.same(needs(full, "0", (0, 0), (2,)), [(1, 1)])
        self.same(needs(full, "0", (0, 0), (3,)), [(1, 0)])
        self.same(needs(full, "0", (0, 0)), [])
        self.same(needs(ROW.begun(((0, 0), ("01",))), "0", (0, 0), (3,)), [])

    def test_a_taker_that_needs_two_signs_at_once(self):
        yard = Yard([TWICE, HALF], [(0, 0, 1, 0)], ((0, 1), ("0",)))
        self.same(needs(yard, "00", (0, 0), (2,)), [(1, 0)])
        self.same(needs(yard, "00", (0, 1), (2,)), [(0, 0), (1, 2)])

    def test_nothing_given_needs_no_room(self):
        yard = Yard([HALF, PASS], [(0, 0, 1, 0)], ((0, 0), ("000",)))
        self.same(needs(yard, "00", (0, 0), (1,)), [])
        self.same(needs(yard, "00", (0, 1), (1,)), [(0, 0), (1, 2)])
        self.same(needs(Yard([EATS, PASS], [(0, 0, 1, 0)], ((0, 0), ("000",))), "00", (0, 1), (1,)), [(0, 0)])

    def test_each_pipe_by_its_own_size(self):
        self.same(needs(TO_TWO, "00", (0, 1), (1, 2)), [(0, 0), (1, 0)])
        self.same(needs(TO_TWO, "00", (0, 1), (2, 1)), [(0, 0), (2, 0)])
        self.same(needs(TO_TWO, "00", (0, 1), (1, 1)), [(0, 0), (1, 0), (2, 0)])

    def test_many_yards_as_they_are_read_slowly(self):
        dice = Dice(15)
        for _ in range(400):
            yard, stream, sizes = some_small(dice)
            order = slow_needs(yard, stream, sizes)
            self.same(beats(yard, stream, sizes), sorted(order))
            for beat in order:
                self.same(needs(yard, stream, beat, sizes), order[beat])

    def test_full_runs_are_just_the_sequences_behind_what_is_needed(self):
        dice = Dice(16)
        judged = 0
        while judged < 60:
            yard, stream, sizes = some_small(dice)
            runs = slow_full_runs(yard, stream, sizes, 300)
            if runs is None or len(runs) < 2:
                continue
            judged += 1
            sequences = [beats_of(run) for run, _ in runs]
            for first in beats(yard, stream, sizes):
                for second in beats(yard, stream, sizes):
                    wanted = first != second and all(
                        sequence.index(first) < sequence.index(second) for sequence in sequences)
                    self.assertIs(must_be_ahead(yard, stream, first, second, sizes), wanted)


class Chains(Cases):
    def test_the_documents_yard(self):
        self.assertIs(must_be_ahead(ROW, "01", (0, 1), (1, 0)), False)
        self.assertIs(must_be_ahead(ROW, "01", (1, 0), (0, 1)), False)
        self.assertIs(must_be_ahead(ROW, "01", (0, 0), (1, 1)), True)
        self.assertIs(must_be_ahead(ROW, "01", (1, 1), (0, 0)), False)
        self.assertIs(must_be_ahead(ROW, "01", (1, 0), (0, 1), (1,)), True)

    def test_one_beat(self):
        for beat in [(0, 0), (1, 1)]:
            self.assertIs(must_be_ahead(ROW, "01", beat, beat), False)
            self.assertIs(chain(ROW, "01", beat, beat), None)
            self.assertIs(is_chain(ROW, "01", beat, beat, [beat]), False)
            self.assertIs(is_chain(ROW, "01", beat, beat, [beat, beat]), False)

    def test_chain(self):
        self.same(chain(ROW, "01", (0, 0), (1, 0)), [(0, 0), (1, 0)])
        self.assertIn(chain(ROW, "01", (0, 0), (1, 1)), [[(0, 0), (0, 1), (1, 1)], [(0, 0), (1, 0), (1, 1)]])
        self.same(chain(ROW, "01", (0, 0), (0, 1), (1,)), [(0, 0), (0, 1)])
        self.same(chain(ROW, "01", (1, 0), (0, 1), (1,)), [(1, 0), (0, 1)])
        self.assertIs(chain(ROW, "01", (0, 1), (1, 0)), None)
        self.assertIs(chain(ROW, "01", (1, 1), (0, 0)), None)

    def test_is_chain(self):
        for value in [[(0, 0), (0, 1), (1, 1)], [(0, 0), (1, 0), (1, 1)], ((0, 0), (1, 0), (1, 1))]:
            self.assertIs(is_chain(ROW, "01", (0, 0), (1, 1), value), True)
        for value in [[], [(0, 0)], [(1, 1)], [(0, 0), (1, 1)], [(1, 1), (0, 1), (0, 0)], [(0, 0), (0, 1)],
                      [(1, 0), (1, 1)], [(0, 0), (0, 0), (1, 0), (1, 1)], [(0, 0), (1, 0), (0, 1), (1, 1)],
                      [(0, 0), (0, 1), (0, 2), (1, 1)], [(0, 0), (2, 0), (1, 1)], [(0, 0), (0, 9), (1, 1)]]:
            self.assertIs(is_chain(ROW, "01", (0, 0), (1, 1), value), False)

    def test_with_sizes(self):
        value = [(0, 0), (1, 0), (0, 1), (1, 1)]
        self.assertIs(is_chain(ROW, "01", (0, 0), (1, 1), value, (1,)), True)
        self.assertIs(is_chain(ROW, "01", (0, 0), (1, 1), value, (2,)), False)

    def test_any_value_is_asked(self):
        for value in odd_values() + [0, 1, "", "01", {0: 0}, [0, 1], ["00", "11"], [(0, 0), None], [None, (1, 0)]]:
            self.assertIs(is_chain(ROW, "01", (0, 0), (1, 0), value), False)
        for value in no_counts() + [9]:
            self.assertIs(is_chain(ROW, "01", (0, 0), (1, 1), [(0, 0), value, (1, 1)]), False)
            self.assertIs(is_chain(ROW, "01", (0, 0), (1, 1), [(0, 0), (value, 0), (1, 1)]), False)
            self.assertIs(is_chain(ROW, "01", (0, 0), (1, 1), [(0, 0), (0, value), (1, 1)]), False)
        for value in [[(0, 0), [1, 0]], [[0, 0], (1, 0)], [(0, False), (1, 0)], [(False, 0), (1, 0)],
                      [(0, 0), (True, 0)], [(0, 0), (1, 0, 0)], [(0, 0), (1,)], [(0, 0), ()]]:
            self.assertIs(is_chain(ROW, "01", (0, 0), (1, 0), value), False)

    def test_many_yards(self):
        dice = Dice(17)
        for _ in range(80):
            yard, stream, sizes = some_small(dice)
            order = slow_needs(yard, stream, sizes)
            for first in order:
                for second in order:
                    found = chain(yard, stream, first, second, sizes)
                    if first not in all_needed(order, second):
                        self.assertIs(found, None)
                        continue
                    self.assertIsInstance(found, list)
                    self.assertEqual([found[0], found[-1]], [first, second])
                    self.assertTrue(all(one in order[two] for one, two in zip(found, found[1:])))
                    self.assertIs(is_chain(yard, stream, first, second, found, sizes), True)
                    self.assertIs(is_chain(yard, stream, second, first, found, sizes), False)
                    self.assertIs(is_chain(yard, stream, first, second, found[::-1], sizes), False)


class Against(Cases):
    def test_the_documents_yard(self):
        self.same(run_against(ROW, "01", (0, 1), (1, 0)), [0, 1, 0, 1])
        self.same(run_against(ROW, "01", (1, 0), (0, 1)), [0, 0, 1, 1])
        self.assertIs(run_against(ROW, "01", (0, 0), (1, 1)), None)
        self.assertIs(run_against(ROW, "01", (0, 0), (0, 0)), None)
        self.assertIs(run_against(ROW, "01", (1, 0), (0, 1), (1,)), None)
        found = run_against(ROW, "01", (1, 1), (0, 0))
        self.assertIn(found, [[0, 0, 1, 1], [0, 1, 0, 1]])

    def test_is_run_against(self):
        self.assertIs(is_run_against(ROW, "01", (0, 1), (1, 0), [0, 1, 0, 1]), True)
        self.assertIs(is_run_against(ROW, "01", (0, 1), (1, 0), (0, 1, 0, 1)), True)
        self.assertIs(is_run_against(ROW, "01", (0, 1), (1, 0), [0, 1, 0, 1], (1,)), True)
        self.assertIs(is_run_against(ROW, "01", (0, 1), (1, 0), [0, 0, 1, 1]), False)
        self.assertIs(is_run_against(ROW, "01", (1, 0), (0, 1), [0, 0, 1, 1]), True)
        self.assertIs(is_run_against(ROW, "01", (1, 0), (0, 1), [0, 0, 1, 1], (1,)), False)
        self.assertIs(is_run_against(ROW, "01", (0, 0), (0, 0), [0, 0, 1, 1]), False)

    def test_runs_that_are_not_full(self):
        for value in [[], [0], [0, 1], [0, 1, 0], [1, 0, 0, 1], [0, 1, 0, 1, 0], [0, 1, 1, 0]]:
            self.assertIs(is_run_against(ROW, "01", (0, 1), (1, 0), value), False)

    def test_any_value_is_asked(self):
        for value in odd_values() + [0, 1, "0101", {0: 0}, [(0, 0), (1, 0), (0, 1), (1, 1)]]:
            self.assertIs(is_run_against(ROW, "01", (0, 1), (1, 0), value), False)
        for value in no_counts() + [2, 10 ** 29]:
            self.assertIs(is_run_against(ROW, "01", (0, 1), (1, 0), [0, value, 0, 1]), False)
        for value in [[False, 1, 0, 1], [0, True, 0, 1], [0, 1, False, True], (0, 1, 0, True)]:
            self.assertIs(is_run_against(ROW, "01", (0, 1), (1, 0), value), False)

    def test_many_yards(self):
        dice = Dice(18)
        for _ in range(60):
            yard, stream, sizes = some_small(dice)
            order = slow_needs(yard, stream, sizes)
            for first in order:
                for second in order:
                    found = run_against(yard, stream, first, second, sizes)
                    if first == second or first in all_needed(order, second):
                        self.assertIs(found, None)
                        continue
                    self.assertIsInstance(found, list)
                    self.assertTrue(is_full(yard, stream, found, sizes))
                    self.assertLess(beats_of(found).index(second), beats_of(found).index(first))
                    self.assertIs(is_run_against(yard, stream, first, second, found, sizes), True)
                    self.assertIs(is_run_against(yard, stream, second, first, found, sizes), False)

    def test_every_full_run_is_against_one_of_both(self):
        dice = Dice(19)
        for _ in range(60):
            yard, stream, sizes = some_small(dice)
            for run, _ in slow_full_runs(yard, stream, sizes, 100) or []:
                sequence = beats_of(run)
                for first, second in zip(sequence, sequence[1:]):
                    self.assertIs(is_run_against(yard, stream, first, second, run, sizes), False)
                    self.assertIs(is_run_against(yard, stream, second, first, run, sizes), True)


class Errors(Cases):
    def test_streams(self):
        for value in no_texts() + ["0" * 1001]:
            for call in ALL:
                self.fails(errors.InvalidStream, {"value": value}, call, ROW, value, *TOLD[call])

    def test_sizes(self):
        for value in odd_values()[1:] + [1, "1", [1], (), (0,), (4,), (1, 1), (True,), ("1",), ((1,),)]:
            for call in ALL:
                self.fails(errors.InvalidSizes, {"value": value}, call, ROW, "01", *TOLD[call], value)
                self.fails(errors.InvalidSizes, {"value": value}, call, ROW, "01", *TOLD[call], sizes=value)

    def test_beats(self):
        wrong = odd_values() + [0, "00", [0, 0], (), (0,), (0, 0, 0), (2, 0), (-1, 0), (0, -1), (False, 0), (0, False),
                                ("0", 0), (0, "0"), ((0, 0),), (None, 0), (0, None), ([0], 0), (10 ** 29, 0)]
        for value in wrong:
            self.fails(errors.InvalidBeat, {"value": value}, needs, ROW, "01", value)
            for call in (must_be_ahead, chain, run_against):
                self.fails(errors.InvalidBeat, {"value": value}, call, ROW, "01", value, (0, 0))
                self.fails(errors.InvalidBeat, {"value": value}, call, ROW, "01", (0, 0), value)
            for call in (is_chain, is_run_against):
                self.fails(errors.InvalidBeat, {"value": value}, call, ROW, "01", value, (0, 0), [])
                self.fails(errors.InvalidBeat, {"value": value}, call, ROW, "01", (0, 0), value, [])

    def test_beats_that_are_never_done(self):
        for value in [(0, 2), (1, 2), (1, 10 ** 29)]:
            self.fails(errors.UnknownBeat, {"value": value}, needs, ROW, "01", value)
            for call in (must_be_ahead, chain, run_against):
                self.fails(errors.UnknownBeat, {"value": value}, call, ROW, "01", value, (0, 0))
                self.fails(errors.UnknownBeat, {"value": value}, call, ROW, "01", (0, 0), value)
                self.fails(errors.UnknownBeat, {"value": value}, call, ROW, "01", value, value)
            for call in (is_chain, is_run_against):
                self.fails(errors.UnknownBeat, {"value": value}, call, ROW, "01", value, (0, 0), [])
                self.fails(errors.UnknownBeat, {"value": value}, call, ROW, "01", (0, 0), value, None)

    def test_with_sizes_fewer_beats_are_known(self):
        self.same(needs(OVERVIEW, "0000", (2, 0)), [(0, 0), (1, 1)])
        self.fails(errors.UnknownBeat, {"value": (2, 0)}, needs, OVERVIEW, "0000", (2, 0), (1, 1, 1))

    def test_the_first_error_is_raised(self):
        for call in ALL[1:]:
            more = TOLD[call][2:]
            two = call is not needs
            beat = ((5, 5), None) if two else ((5, 5),)
            self.fails(errors.InvalidStream, {"value": "x"}, call, ROW, "x", *beat, *more, (7,))
            self.fails(errors.InvalidSizes, {"value": (7,)}, call, ROW, "01", *beat, *more, (7,))
            self.fails(errors.InvalidBeat, {"value": (5, 5)}, call, ROW, "01", *beat, *more, (1,))
            if two:
                self.fails(errors.InvalidBeat, {"value": None}, call, ROW, "01", (0, 9), None, *more)
                self.fails(errors.UnknownBeat, {"value": (0, 9)}, call, ROW, "01", (0, 9), (1, 8), *more)
                self.fails(errors.UnknownBeat, {"value": (1, 8)}, call, ROW, "01", (0, 0), (1, 8), *more)

    def test_by_name(self):
        self.same(beats(yard=ROW, stream="0", sizes=None), [(0, 0), (1, 0)])
        self.same(needs(sizes=(1,), beat=(0, 1), stream="01", yard=ROW), [(0, 0), (1, 0)])
        named = {"yard": ROW, "stream": "01", "first": (0, 1), "second": (1, 0), "sizes": None}
        self.same([must_be_ahead(**named), chain(**named), run_against(**named)], [False, None, [0, 1, 0, 1]])
        self.same([is_chain(value=[], **named), is_run_against(value=[0, 1, 0, 1], **named)], [False, True])


class SixtyBeats(Cases):
    many = {"what": "beats", "limit": 60}
    pair = Yard([PASS, PASS], [(0, 0, 1, 0)])

    def test_sixty_are_looked_at(self):
        stream = "01" * 15
        self.assertEqual(len(beats(self.pair, stream)), 60)
        self.same(needs(self.pair, stream, (1, 29)), [(0, 29), (1, 28)])
        self.assertIs(must_be_ahead(self.pair, stream, (0, 0), (1, 29)), True)
        self.assertIs(is_chain(self.pair, stream, (0, 0), (1, 29), chain(self.pair, stream, (0, 0), (1, 29))), True)
        found = run_against(self.pair, stream, (0, 29), (1, 28))
        self.assertIs(is_run_against(self.pair, stream, (0, 29), (1, 28), found), True)
        self.assertIs(is_run_against(self.pair, stream, (0, 29), (1, 28), [0, 1] * 30), True)
        self.assertEqual(len(beats(Yard([PASS], []), "0" * 60)), 60)

    def test_sixty_one_are_too_many(self):
        yard = self.pair.begun(((0, 0), ("1",)))
        for call in ALL:
            self.fails(errors.TooMany, self.many, call, yard, "01" * 15, *TOLD[call])
            self.fails(errors.TooMany, self.many, call, Yard([PASS], []), "0" * 61, *TOLD[call])
            self.fails(errors.TooMany, self.many, call, yard, "0" * 1000, *TOLD[call], (3,))

    def test_with_the_sizes_there_may_be_fewer(self):
        self.fails(errors.TooMany, self.many, beats, OVERVIEW, "0" * 40)
        self.same(beats(OVERVIEW, "0" * 40, (1, 1, 1)), [(0, 0), (1, 0)])

    def test_ahead_of_beats_that_are_never_done(self):
        for call in ALL[1:]:
            more = TOLD[call][2:]
            beat = ((0, 99),) if call is needs else ((0, 99), (0, 99))
            self.fails(errors.TooMany, self.many, call, self.pair, "0" * 31, *beat, *more)
            beat = (None,) if call is needs else ((0, 99), None)
            self.fails(errors.InvalidBeat, {"value": None}, call, self.pair, "0" * 31, *beat, *more)


class Kept(Cases):
    def test_what_was_returned_may_be_changed(self):
        for call, told in [(beats, ()), (needs, ((1, 1),)), (chain, ((0, 0), (1, 1))), (run_against, ((0, 1), (1, 0)))]:
            found = call(ROW, "01", *told)
            kept = list(found)
            found.clear()
            self.same(call(ROW, "01", *told), kept)

    def test_what_was_passed_stays(self):
        value = [(0, 0), (0, 1), (1, 1)]
        run = [0, 1, 0, 1]
        is_chain(ROW, "01", (0, 0), (1, 1), value)
        is_run_against(ROW, "01", (0, 1), (1, 0), run)
        self.same([value, run], [[(0, 0), (0, 1), (1, 1)], [0, 1, 0, 1]])
        self.same(ROW, Yard(ROW.stations, [(0, 0, 1, 0)]))

    def test_stations_that_give_nothing_at_all(self):
        yard = Yard([Station(1, 1, [("1", [(("",), 0, 9), (("",), 0, 9)])])], [])
        self.same([beats(yard, "01"), needs(yard, "01", (0, 1))], [[(0, 0), (0, 1)], [(0, 0)]])


if __name__ == "__main__":
    unittest.main()

"""[31], [32]: rests, their numbers and steps, held yards, held papers, and the errors of looking through."""

import unittest

from flowyard import errors
from flowyard.rests import is_held, is_held_paper, is_overfilling, overfilling, rest_behind, rests, step, stream_to
from flowyard.yards import Station, Yard
from helper import (COPY, HALF, OVERVIEW, PASS, ROW, SPLIT, TWICE, UNLIKE, Cases, Dice, no_counts, no_texts,
                    odd_values, some_yard)
from slow_rests import all_texts, slow_added, slow_look, slow_rest
from some_yards import COPIES, HELD_BY_TWO, HOLDS, ONE_MORE, counting, doubling, fourfold, only, wheel
from spoiling import few, with_tuples, wrong_kinds

# At the END of n signs n wait in the pipe to the second in-line, which is never read.
ONE_LINE = Station(2, 1, [("1", [(("0",), 0, 1), (("1",), 0, 1)])])
FILLING = Yard([COPY, ONE_LINE], [(0, 0, 1, 0), (0, 1, 1, 1)])


# 0 goes to the one exit, 1 to the other one.
PARTING = Station(1, 2, [("1", [(("0", ""), 0, 1), (("", "1"), 0, 1)])])


def slow_outcome(call, *given):
    """What a call returns, or its error as slow_look tells it."""
    try:
        return call(*given)
    except errors.NotHeld as error:
        return ("NotHeld", error.stream)
    except errors.TooMany as error:
        return ("TooMany", error.what, error.limit)


def some_looked(dice, wanted):
    """A yard that is held and has few rests, or one that is not, with what slow_look says of it."""
    while True:
        yard = some_yard(dice, 3)
        met, error = slow_look(yard, 4)
        if (error is None) == wanted and len(met) <= 20:
            return yard, met, error


class Rests(Cases):
    def test_the_documents_yards(self):
        self.same(rests(HOLDS), [((0,), ()), ((1,), ()), ((2,), ())])
        self.same(rests(COPIES), [((0,), ())])
        self.same(rests(HELD_BY_TWO), [((0, 0, 0), ("", "", "")), ((0, 1, 0), ("", "0", "")), ((0, 2, 0), ("", "1", ""))])

    def test_behind_the_beats_of_what_was_there(self):
        yard = ROW.begun(((0, 0), ("101",)))
        self.same(rests(yard), [((0, 0), ("",))])
        yard = Yard([PASS, HALF], [(0, 0, 1, 0)], ((0, 1), ("10",)))
        self.same(rests(yard), [((0, 1), ("",)), ((0, 0), ("",))])

    def test_numbered_as_they_are_come_to(self):
        crossed = Station(1, 1, [("1", [(("",), 3, 1), (("",), 1, 1)]), ("1", [(("",), 2, 1), (("",), 0, 1)]),
                                 ("1", [(("",), 2, 1), (("",), 2, 1)]), ("1", [(("",), 0, 1), (("",), 3, 1)])])
        yard = Yard([crossed], [])
        self.same(rests(yard), [((0,), ()), ((3,), ()), ((1,), ()), ((2,), ())])
        self.same([stream_to(yard, number) for number in range(4)], ["", "0", "1", "10"])
        self.same(rests(yard.begun(((1,), ()))), [((1,), ()), ((2,), ()), ((0,), ()), ((3,), ())])

    def test_steps(self):
        self.same([step(HOLDS, 0, "0"), step(HOLDS, 0, "1"), step(HOLDS, 1, "1"), step(HOLDS, 2, "0")],
                  [(1, ("",)), (2, ("",)), (0, ("01",)), (0, ("10",))])
        self.same(step(yard=HOLDS, rest=2, sign="1"), (0, ("11",)))
        both = Yard([SPLIT], [])
        self.same([step(both, 0, "1"), step(both, 1, "1"), step(both, 1, "0")], [(1, ("1", "")), (0, ("", "1")), (0, ("", "0"))])
        self.same([step(HELD_BY_TWO, 1, "1"), step(HELD_BY_TWO, 0, "0")], [(0, ("00",)), (1, ("",))])

    def test_what_was_there_is_in_no_step(self):
        yard = ROW.begun(((0, 0), ("101",)))
        self.same([step(yard, 0, "0"), step(yard, 0, "1")], [(0, ("0",)), (0, ("1",))])

    def test_rest_behind(self):
        self.same([rest_behind(HOLDS, stream) for stream in ("", "0", "1", "01", "011", "0110")], [0, 1, 2, 0, 2, 0])
        self.same(rest_behind(yard=HOLDS, stream="1" * 999), 2)
        self.same(rest_behind(HOLDS, "1" * 1000), 0)

    def test_many_yards_by_the_ends_of_all_short_streams(self):
        dice = Dice(31)
        for _ in range(60):
            yard, met, _ = some_looked(dice, True)
            found = slow_outcome(rests, yard)
            if not isinstance(found, list):
                continue
            self.same(found[:len(met)], list(met))
            for number, rest in enumerate(met):
                self.same(stream_to(yard, number), met[rest])
            for stream in all_texts(4, 1):
                number = rest_behind(yard, stream)
                self.same(found[number], slow_rest(yard, stream))
                self.same(step(yard, rest_behind(yard, stream[:-1]), stream[-1]), (number, slow_added(yard, stream)))

    def test_returned_lists_are_new(self):
        found = rests(HOLDS)
        found.append(None)
        found[0] = None
        self.same(len(rests(HOLDS)), 3)
        self.same(rests(HOLDS)[0], ((0,), ()))


class LookingThrough(Cases):
    """Each function that looks through raises the first of the three errors."""

    def each_fails(self, yard, error, attributes):
        self.fails(error, attributes, rests, yard)
        self.fails(error, attributes, rest_behind, yard, "")
        self.fails(error, attributes, step, yard, 0, "0")
        self.fails(error, attributes, stream_to, yard, 0)

    def test_not_held(self):
        self.each_fails(FILLING, errors.NotHeld, {"stream": "0000"})
        self.each_fails(OVERVIEW, errors.NotHeld, {"stream": "0" * 7})
        self.each_fails(FILLING.begun(((0, 0), ("", "010"))), errors.NotHeld, {"stream": "0"})
        self.each_fails(Yard([only("1"), COPY, ONE_LINE], [(0, 0, 1, 0), (1, 0, 2, 0), (1, 1, 2, 1)]),
                        errors.NotHeld, {"stream": "1111"})

    def test_not_held_by_the_empty_stream(self):
        yard = Yard([COPY, TWICE, UNLIKE], [(0, 0, 1, 0), (0, 1, 2, 0), (1, 0, 2, 1)], ((0, 0, 0), ("01", "", "")))
        self.each_fails(yard, errors.NotHeld, {"stream": ""})
        self.same([overfilling(yard, number) for number in range(4)], ["", "", "", ""])

    def test_sixty_rests_and_one_more(self):
        self.same(len(rests(counting(60))), 60)
        self.same(stream_to(counting(60), 59), "0" * 59)
        self.each_fails(counting(61), errors.TooMany, {"what": "rests", "limit": 60})
        self.each_fails(counting(64), errors.TooMany, {"what": "rests", "limit": 60})

    def test_sixteen_signs_and_one_more_of_the_last_sign(self):
        self.same(step(doubling(4), 0, "1"), (0, ("1" * 16,)))
        self.each_fails(doubling(4, ONE_MORE), errors.TooMany, {"what": "signs", "limit": 16})
        self.each_fails(doubling(5), errors.TooMany, {"what": "signs", "limit": 16})
        begun = doubling(4, ONE_MORE, ((0, 0, 0, 0, 1), ("",) * 4))
        self.same(step(begun, 0, "0"), (0, ("0" * 16,)))

    def test_sixteen_signs_and_one_more_of_the_empty_stream(self):
        begin = ((0,) * 5, ("00", "", "", ""))
        self.same(len(rests(doubling(4, PASS, begin))), 1)
        self.each_fails(doubling(4, PASS, ((0,) * 5, ("00", "", "", "0"))), errors.TooMany, {"what": "signs", "limit": 16})

    def test_signs_of_steps_alone_count(self):
        # What is given altogether has more signs than sixteen, but no step has.
        self.same(len(rests(counting(40))), 40)
        self.same(rests(doubling(4)), [((0,) * 5, ("",) * 4)])

    def test_signs_at_one_exit_alone_count(self):
        yard = Yard([COPY, *[TWICE] * 4, *[TWICE] * 4], [(0, 0, 1, 0), (1, 0, 2, 0), (2, 0, 3, 0), (3, 0, 4, 0),
                                                         (0, 1, 5, 0), (5, 0, 6, 0), (6, 0, 7, 0), (7, 0, 8, 0)])
        self.same(step(yard, 0, "0"), (0, ("0" * 16, "0" * 16)))

    def test_the_first_stream_decides(self):
        # By 0 the rests go on and on; the fourth 1, or the first one, gives too many signs.
        stations = [PARTING, *counting(64).stations]
        pipes = [(k, 0, k + 1, 0) for k in range(4)]
        yard = Yard([*stations, *[TWICE] * 5], [*pipes, (0, 1, 5, 0), *[(k, 0, k + 1, 0) for k in range(5, 9)]])
        self.each_fails(yard, errors.TooMany, {"what": "signs", "limit": 16})
        self.same(slow_look(yard, 2)[1], ("TooMany", "signs", 16))
        slow = Yard([*stations, wheel(), wheel(), *[TWICE] * 5],
                    [*pipes, (0, 1, 5, 0), *[(k, 0, k + 1, 0) for k in range(5, 11)]])
        self.each_fails(slow, errors.TooMany, {"what": "rests", "limit": 60})
        filling = Yard([*stations, COPY, ONE_LINE], [*pipes, (0, 1, 5, 0), (5, 0, 6, 0), (5, 1, 6, 1)])
        self.each_fails(filling, errors.NotHeld, {"stream": "1111"})

    def test_not_held_ahead_of_too_many_signs(self):
        # The same sign leaves four signs in a pipe and gives more than sixteen at an exit.
        spill = Yard([TWICE, TWICE, COPY, TWICE, TWICE, TWICE, ONE_LINE],
                     [(0, 0, 1, 0), (1, 0, 2, 0), (2, 0, 3, 0), (3, 0, 4, 0), (4, 0, 5, 0), (2, 1, 6, 1), (5, 0, 6, 0)])
        self.each_fails(spill, errors.NotHeld, {"stream": "0"})
        # The empty stream does.
        pipes = [(0, 0, 1, 0), (0, 1, 2, 0), (1, 0, 5, 1), (2, 0, 3, 0), (3, 0, 4, 0), (4, 0, 5, 0)]
        yard = Yard([COPY, TWICE, TWICE, TWICE, TWICE, ONE_LINE], pipes)
        self.each_fails(yard.begun(((0,) * 6, ("00", "000", "", "", "", ""))), errors.NotHeld, {"stream": ""})
        self.each_fails(yard.begun(((0,) * 6, ("0", "000", "", "", "", ""))), errors.TooMany,
                        {"what": "signs", "limit": 16})
        self.same(overfilling(yard.begun(((0,) * 6, ("0", "000", "", "", "", ""))), 1), "")

    def test_many_rests_ahead_of_many_signs(self):
        # The three wheels come round by a step that gives 32 signs: to the 61st rest, or to the 60th.
        yard = Yard([PASS, *[wheel()] * 3, *[TWICE] * 5], [(k, 0, k + 1, 0) for k in range(8)])
        late = yard.begun(((0, 0, 1, 0, 0, 0, 0, 0, 0), ("",) * 8))
        self.each_fails(late, errors.TooMany, {"what": "rests", "limit": 60})
        soon = yard.begun(((0, 1, 1, 0, 0, 0, 0, 0, 0), ("",) * 8))
        self.each_fails(soon, errors.TooMany, {"what": "signs", "limit": 16})

    def test_no_beats_are_too_many(self):
        yard = fourfold(7)
        self.same(rests(yard), [((0,) * 8, ("",) * 14)])
        self.same(step(yard, 0, "1"), (0, ("",)))

    def test_many_yards_that_are_not_held(self):
        dice = Dice(32)
        for _ in range(40):
            yard, _, error = some_looked(dice, False)
            self.same(slow_outcome(rests, yard), error)


class Errors(Cases):
    def test_streams(self):
        self.fails_on(errors.InvalidStream, no_texts() + ["0" * 1001], lambda value: rest_behind(HOLDS, value))
        self.fails_on(errors.InvalidStream, [None, "0" * 1001], lambda value: rest_behind(yard=FILLING, stream=value))

    def test_signs_ahead_of_looking_through_and_that_ahead_of_rests(self):
        values = no_texts() + ["", "00", "01", "10"]
        self.fails_on(errors.InvalidSign, values, lambda value: step(HOLDS, 0, value))
        self.fails_on(errors.InvalidSign, values[:5], lambda value: step(FILLING, None, value))
        self.fails(errors.NotHeld, {"stream": "0000"}, step, FILLING, None, "0")
        self.fails(errors.NotHeld, {"stream": "0000"}, stream_to, FILLING, None)
        self.fails(errors.TooMany, {"what": "rests", "limit": 60}, stream_to, counting(61), -1)

    def test_rests(self):
        values = no_counts() + [3, 4, 10 ** 29]
        self.fails_on(errors.InvalidRest, values, lambda value: step(HOLDS, value, "0"))
        self.fails_on(errors.InvalidRest, values, lambda value: stream_to(HOLDS, value))
        self.fails_on(errors.InvalidRest, [True, 3], lambda value: stream_to(yard=HOLDS, rest=value))
        self.fails_on(errors.InvalidRest, [60], lambda value: stream_to(counting(60), value))

    def test_numbers(self):
        values = no_counts() + [4, 5, 10 ** 29]
        for yard in (HOLDS, FILLING):
            self.fails_on(errors.InvalidNumber, values, lambda value: is_held(yard, value))
            self.fails_on(errors.InvalidNumber, values, lambda value: overfilling(yard, value))
            self.fails_on(errors.InvalidNumber, values, lambda value: is_held_paper(yard, value, None))
            self.fails_on(errors.InvalidNumber, values, lambda value: is_overfilling(yard, value, "0"))
        self.fails(errors.InvalidNumber, {"value": True}, is_held, yard=HOLDS, number=True)
        self.fails(errors.InvalidNumber, {"value": 4}, is_held_paper, value=None, number=4, yard=HOLDS)


class Held(Cases):
    def test_numbers_from_0_to_3(self):
        self.same([overfilling(FILLING, number) for number in range(4)], ["0", "00", "000", "0000"])
        self.same([overfilling(HELD_BY_TWO, number) for number in range(4)], ["0", None, None, None])
        self.same([is_held(HELD_BY_TWO, number) for number in range(4)], [False, True, True, True])
        self.same([overfilling(HOLDS, number) for number in range(4)], [None] * 4)
        self.same([overfilling(OVERVIEW, number) for number in range(4)], ["0", "000", "00000", "0000000"])
        two = Yard([only("1"), COPY, ONE_LINE], [(0, 0, 1, 0), (1, 0, 2, 0), (1, 1, 2, 1)])
        self.same([overfilling(two, number) for number in range(4)], ["1", "11", "111", "1111"])

    def test_the_empty_stream_overfills(self):
        yard = FILLING.begun(((0, 0), ("", "01")))
        self.same([overfilling(yard, number) for number in range(4)], ["", "", "0", "00"])
        self.same([is_overfilling(yard, number, "") for number in range(4)], [True, True, False, False])

    def test_they_end_with_the_first_stream_that_overfills(self):
        # One sign stays in a pipe behind the first one, sixty-one rests come later.
        stays = Station(2, 1, [("1", [(("0",), 0, 1), (("0",), 0, 1)])])
        yard = Yard([SPLIT, stays, *counting(64).stations], [(0, 0, 1, 0), (0, 1, 1, 1), (1, 0, 2, 0), *[
            (k + 2, 0, k + 3, 0) for k in range(3)]])
        self.same([overfilling(yard, number) for number in range(4)], ["00", "0000", "000000", "00000000"])
        self.same([is_held(yard, number) for number in range(4)], [False] * 4)

    def test_or_with_too_many_ahead_of_it(self):
        for many in (61, 64):
            yard = counting(many)
            # Only behind the last rest signs begin to fill the pipe.
            stations = [*yard.stations[:3], Station(1, 1, [("1", [(("",), min(k + 1, 3), 1)] * 2) for k in range(3)]
                                                    + [("1", [(("0",), 3, 1)] * 2)])]
            slow = Yard([*stations, COPY, ONE_LINE], [*yard.pipes, (3, 0, 4, 0), (4, 0, 5, 0), (4, 1, 5, 1)],
                        ((*yard.begin[0], 0, 0), ("",) * 6))
            for call, more in [(overfilling, (3,)), (is_held, (3,)), (rests, ())]:
                self.fails(errors.TooMany, {"what": "rests", "limit": 60}, call, slow, *more)
            self.same(is_overfilling(slow, 3, "0" * 1000), True)

    def test_too_many_where_nothing_overfills(self):
        for number in range(4):
            self.fails(errors.TooMany, {"what": "rests", "limit": 60}, is_held, counting(61), number)
            self.fails(errors.TooMany, {"what": "signs", "limit": 16}, overfilling, doubling(5), number)
            self.same(is_held(counting(60), number), True)

    def test_of_one_stream_overfilling_is_told_ahead(self):
        # By 0 a sign stays in a pipe, and seventeen are given.
        yard = Yard([COPY, TWICE, TWICE, TWICE, TWICE, ONE_MORE, ONE_LINE],
                    [(0, 0, 1, 0), (1, 0, 2, 0), (2, 0, 3, 0), (3, 0, 4, 0), (4, 0, 5, 0), (5, 0, 6, 0), (0, 1, 6, 1)])
        self.same(overfilling(yard, 0), "0")
        for number in (1, 2, 3):
            self.fails(errors.TooMany, {"what": "signs", "limit": 16}, overfilling, yard, number)
        self.same([is_overfilling(yard, number, "000") for number in range(4)], [True, True, True, False])


class Papers(Cases):
    def test_held_papers(self):
        for yard in (COPIES, HOLDS, HELD_BY_TWO, counting(60), ROW):
            for number in range(4):
                if not is_held(yard, number):
                    self.assertIs(is_held_paper(yard, number, rests(yard)), False)
                    continue
                paper = rests(yard)
                for value in (paper, paper[::-1], tuple(paper), paper[1:] + paper[:1]):
                    self.assertIs(is_held_paper(yard, number, value), True)
                for value in [paper[:at] + paper[at + 1:] for at in range(len(paper))]:
                    self.assertIs(is_held_paper(yard, number, value), False)
                for value in [paper + [rest] for rest in paper]:
                    self.assertIs(is_held_paper(yard, number, value), False)

    def test_spoilt_ones(self):
        for yard in (HOLDS, HELD_BY_TWO, ROW):
            paper = rests(yard)
            self.assertIs(is_held_paper(yard, 3, paper), True)
            for value in wrong_kinds(paper):
                self.assertIs(is_held_paper(yard, 3, value), False)
            lists = [[list(rest[0]), list(rest[1])] for rest in paper]
            self.assertIs(is_held_paper(yard, 3, lists), False)
            self.assertIs(is_held_paper(yard, 3, with_tuples(paper)), True)

    def test_any_value(self):
        for value in odd_values() + [[], (), [None], [()], [((), ())], [((0,),)], [((3,), ())], [((0,), ("",))], "", 0]:
            self.assertIs(is_held_paper(HOLDS, 3, value), False)
        good = [((0, 0), ("",))]
        self.assertIs(is_held_paper(ROW, 0, good), True)
        for value in [((1, 0), ("",)), ((0,), ("",)), ((0, 0), ()), ((0, 0), ("", "")), ((0, 0), ("0",)), ((0, 0), ("2",)),
                      ((0, -1), ("",)), ((0, 0), ("0000",)), ((0, 0), "")]:
            self.assertIs(is_held_paper(ROW, 3, good + [value]), False)
            self.assertIs(is_held_paper(ROW, 3, [value]), False)

    def test_further_ones_are_let(self):
        # The second station never stands at 2 by streams; from there nothing is read from the first line.
        odd = Station(2, 1, [("12", [(("0",), 0, 1)] * 4), ("2", [(("0",), 1, 1), (("0",), 1, 1)])])
        yard = Yard([COPY, odd], [(0, 0, 1, 0), (0, 1, 1, 1)])
        paper = [((0, 0), ("", ""))]
        self.assertIs(is_held_paper(yard, 0, paper), True)
        # The first in-line is not read at standing 1: signs go on waiting there.
        self.assertIs(is_held_paper(yard, 3, paper + [((0, 1), ("", ""))]), False)
        crossed = Station(1, 1, [("1", [(("0",), 0, 1)] * 2), ("1", [(("0",), 1, 1), (("0",), 0, 1)])])
        self.same(rests(Yard([crossed], [])), [((0,), ())])
        self.assertIs(is_held_paper(Yard([crossed], []), 0, [((0,), ()), ((1,), ())]), True)
        self.assertIs(is_held_paper(Yard([crossed], []), 0, [((1,), ())]), False)
        self.assertIs(is_held_paper(Yard([crossed], []), 0, [((1,), ()), ((0,), ())]), True)

    def test_further_ones_hold_no_more_than_the_number(self):
        # A sign that waits on the second line is given by the next 1; none comes to wait by streams.
        line = Station(2, 1, [("1", [(("0",), 0, 1), (("1",), 0, 1)])])
        yard = Yard([Station(1, 2, [("1", [(("0", ""), 0, 1), (("1", ""), 0, 1)])]), line], [(0, 0, 1, 0), (0, 1, 1, 1)])
        first = ((0, 0), ("", ""))
        for waiting in ("0", "01", "011"):
            value = [first, ((0, 0), ("", waiting))]
            self.same([is_held_paper(yard, number, value) for number in range(4)],
                      [len(waiting) <= number for number in range(4)])
        self.assertIs(is_held_paper(yard, 3, [first, ((0, 0), ("", "0111"))]), False)

    def test_beats_must_not_be_done_without_a_sign(self):
        self.assertIs(is_held_paper(ROW, 3, [((0, 0), ("",)), ((0, 0), ("1",))]), False)

    def test_neither_looks_through(self):
        self.assertIs(is_held_paper(FILLING, 3, [((0, 0), ("", ""))]), False)
        self.assertIs(is_held_paper(counting(61), 0, rests(counting(60))), False)
        yard = doubling(5)
        self.assertIs(is_held_paper(yard, 0, [((0,) * 6, ("",) * 5)]), True)
        every = counting(60).begun(counting(64).begin)
        paper = [(rest[0], rest[1]) for rest in rests(counting(60))]
        missing = [((0, k, 0, 0), ("", "", "")) for k in range(4)]
        self.assertIs(is_held_paper(every, 0, paper + missing), True)
        self.assertIs(is_held_paper(every, 0, paper + missing[1:]), False)

    def test_overfilling_streams(self):
        for number in range(4):
            for stream in all_texts(5):
                self.assertIs(is_overfilling(FILLING, number, stream), len(stream) > number)
                self.assertIs(is_overfilling(HOLDS, number, stream), False)
        self.assertIs(is_overfilling(FILLING, 3, "01" * 500), True)
        for value in no_texts() + ["01" * 500 + "0"]:
            self.assertIs(is_overfilling(FILLING, 0, value), False)
        self.assertIs(is_overfilling(value="0000", number=3, yard=FILLING), True)

    def test_a_stream_whose_end_does_not_overfill(self):
        # What was filled is read again: three signs wait behind 000, none behind 0001.
        drain = Station(2, 1, [("1", [(("",), 0, 1), (("",), 1, 1)]), ("2", [(("0",), 1, 1), (("0",), 1, 1)])])
        yard = Yard([COPY, drain], [(0, 0, 1, 0), (0, 1, 1, 1)])
        self.same([is_overfilling(yard, 2, stream) for stream in ("00", "000", "0001", "00010")], [False, True, False, False])

    def test_papers_of_many_yards(self):
        dice = Dice(33)
        for _ in range(30):
            yard, _, _ = some_looked(dice, True)
            found = slow_outcome(rests, yard)
            if isinstance(found, list):
                most = max([0] + [len(text) for rest in found for text in rest[1]])
                for number in range(4):
                    self.assertIs(is_held_paper(yard, number, found), number >= most)
                    self.assertIs(is_held(yard, number), number >= most)
                for value in few(wrong_kinds(found), 40):
                    self.assertIs(is_held_paper(yard, 3, value), False)


class Unchanged(Cases):
    def test_what_was_passed(self):
        paper = rests(HELD_BY_TWO)
        before = repr(paper)
        self.assertIs(is_held_paper(HELD_BY_TWO, 2, paper), True)
        self.assertEqual(repr(paper), before)
        self.assertIs(is_held_paper(HELD_BY_TWO, 2, paper), True)
        paper.pop()
        self.assertIs(is_held_paper(HELD_BY_TWO, 2, paper), False)


if __name__ == "__main__":
    unittest.main()

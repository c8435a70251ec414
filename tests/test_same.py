"""[33]: yards that are the same, same papers, and streams that part."""

import unittest

from flowyard import errors
from flowyard.compiling import compiled
from flowyard.fusing import fused
from flowyard.rests import rests
from flowyard.same import are_same, is_parting, is_same_paper, parting, same_paper
from flowyard.yards import Station, Yard, joined
from helper import COPY, HALF, OVERVIEW, PASS, SPLIT, TURN, TWICE, Cases, Dice, no_texts, odd_values
from slow_rests import Steps, all_texts, slow_flows
from some_held import some_two
from some_yards import COPIES, EATING, HELD_BY_TWO, HOLDS, LATE, ONES, TURNING, TWO_TURNS, counting, doubling, only
from spoiling import few, with_tuples, wrong_kinds

TWO_EXITS = Yard([SPLIT], [])
# Both give the same at the first exit alone.
SPLIT_TURNED = Yard([SPLIT, PASS, TURN], [(0, 0, 1, 0), (0, 1, 2, 0)])
SPLIT_PASSED = Yard([SPLIT, PASS, PASS], [(0, 0, 1, 0), (0, 1, 2, 0)])
ALL = (are_same, parting, same_paper)
JUDGES = (is_same_paper, is_parting)


def slow_is_same_paper(mine, yours, value):
    """A reading of the point for a list of tuples of numbers of rests."""
    if mine.first != yours.first or (0, 0) not in value or len(set(value)) < len(value):
        return False
    for my_rest, your_rest in value:
        for sign in (0, 1):
            my_goal, my_texts = mine.steps[my_rest][sign]
            your_goal, your_texts = yours.steps[your_rest][sign]
            if my_texts != your_texts or (my_goal, your_goal) not in value:
                return False
    return True


class Same(Cases):
    def test_the_documents_yards(self):
        self.same([are_same(COPIES, HOLDS), parting(COPIES, HOLDS), same_paper(COPIES, HOLDS)], [False, "0", None])
        self.same([are_same(COPIES, COPIES), parting(COPIES, COPIES)], [True, None])
        self.same(sorted(same_paper(COPIES, COPIES)), [(0, 0)])

    def test_the_same_in_other_words(self):
        for one, other in [(COPIES, TWO_TURNS), (TWO_TURNS, COPIES), (HOLDS, joined(HOLDS, 0, COPIES)),
                           (TWO_EXITS, SPLIT_PASSED), (LATE, joined(LATE, 0, TWO_TURNS)),
                           (COPIES, Yard([TWICE, HALF], [(0, 0, 1, 0)]))]:
            self.same([are_same(one, other), parting(one, other)], [True, None])
            self.same([are_same(one=other, other=one), parting(one=other, other=one)], [True, None])
            for mine, yours in [(one, other), (other, one)]:
                self.assertIs(is_same_paper(mine, yours, same_paper(mine, yours)), True)

    def test_parted(self):
        for one, other, stream in [(COPIES, TURNING, "0"), (COPIES, ONES, "0"), (COPIES, LATE, "1"),
                                   (SPLIT_TURNED, SPLIT_PASSED, "00"), (HELD_BY_TWO, HOLDS, "01"),
                                   (counting(40), counting(40).begun(((0, 3, 3, 3), ("", "", ""))), None),
                                   (counting(30), EATING, None)]:
            self.same([parting(one, other), parting(other, one)], [stream, stream])
            self.same(are_same(one, other), stream is None)
            if stream is not None:
                self.assertIs(is_parting(one, other, stream), True)

    def test_the_empty_stream_parts(self):
        begun = Yard([PASS, PASS], [(0, 0, 1, 0)], ((0, 0), ("01",)))
        self.same([parting(begun, COPIES), same_paper(begun, COPIES), are_same(begun, COPIES)], ["", None, False])
        self.assertIs(is_parting(begun, COPIES, ""), True)
        # One sign given at the beginning is missed at once, though the other one gives it by the first 0.
        late = Yard([Station(1, 1, [("1", [(("10",), 1, 1)] * 2), ("1", [(("0",), 1, 1)] * 2)])], [])
        soon = Yard([EATING.stations[0], PASS, PASS], [(0, 0, 1, 0), (1, 0, 2, 0)], ((0, 0, 0), ("", "1")))
        self.same([parting(late, soon), parting(soon, late)], ["", ""])
        self.same(parting(begun, begun), None)

    def test_at_any_exit(self):
        # Of two signs all is the same, and of three at the first exit.
        self.same(parting(SPLIT_TURNED, SPLIT_PASSED), "00")
        self.same(parting(SPLIT_PASSED, TWO_EXITS), None)
        self.same(slow_flows(SPLIT_TURNED, "0"), slow_flows(SPLIT_PASSED, "0"))

    def test_the_least_stream_of_as_many(self):
        one = Yard([Station(1, 1, [("1", [(("0",), 1, 1), (("0",), 2, 1)]), ("1", [(("0",), 0, 1), (("1",), 0, 1)]),
                                   ("1", [(("1",), 0, 1), (("0",), 0, 1)])])], [])
        other = Yard([Station(1, 1, [("1", [(("0",), 0, 1)] * 2)])], [])
        self.same(parting(one, other), "01")
        self.same(parting(one.begun(((2,), ())), other), "0")

    def test_compiled_and_fused(self):
        for term in [("count", ("change", "in")), ("late", "0", ("not", "in")), ("half", ("twice", "in"))]:
            self.same(parting(compiled(term), fused(compiled(term))), None)
        self.same(are_same(compiled(("count", ("change", "in"))), COPIES), True)
        self.same(parting(compiled(("late", "0", "in")), compiled(("late", "1", "in"))), "0")

    def test_many_yards_by_the_flows_of_all_short_streams(self):
        dice = Dice(331)
        streams = all_texts(6)
        for _ in range(80):
            one, other = some_two(dice)
            unlike = [stream for stream in streams if slow_flows(one, stream) != slow_flows(other, stream)]
            found = parting(one, other)
            self.same(are_same(one, other), found is None)
            self.same(same_paper(one, other) is None, found is not None)
            if found is None or unlike:
                self.same([found], unlike[:1] or [None])
            else:
                self.assertGreater(len(found), 6)
                self.assertNotEqual(slow_flows(one, found), slow_flows(other, found))

    def test_returned_lists_are_new(self):
        found = same_paper(HOLDS, HOLDS)
        found.clear()
        self.same(sorted(same_paper(HOLDS, HOLDS)), [(0, 0), (1, 1), (2, 2)])


class Papers(Cases):
    def test_same_papers(self):
        twice = joined(HOLDS, 0, TWO_TURNS)
        for one, other in [(COPIES, COPIES), (HOLDS, twice), (TWO_EXITS, SPLIT_PASSED), (LATE, LATE), (counting(60), EATING)]:
            paper = same_paper(one, other)
            for value in (paper, paper[::-1], tuple(paper), paper[1:] + paper[:1]):
                self.assertIs(is_same_paper(one, other, value), True)
            for value in few([paper[:at] + paper[at + 1:] for at in range(len(paper))], 9):
                self.assertIs(is_same_paper(one, other, value), False)
            for value in few([paper + [pair] for pair in paper], 9) + [few(wrong_kinds(paper), 60)]:
                self.assertIs(is_same_paper(one, other, value), False)
            for value in few(wrong_kinds(paper), 60):
                self.assertIs(is_same_paper(one, other, value), False)

    def test_any_value(self):
        for value in odd_values() + [[], (), "", 0, [None], [()], [(0,)], [[0, 0]], [(0, 0, 0)], [(0, 0), (0, 0)],
                                     [(0, 0), (0, 1)], [(0, 0), (1, 0)], [(0, 0), (-1, 0)], [(False, 0)], [(0, False)],
                                     {(0, 0): 1}, {(0, 0)}, [(0, 0), None], [("0", "0")]]:
            self.assertIs(is_same_paper(COPIES, COPIES, value), False)
        self.assertIs(is_same_paper(COPIES, COPIES, [(0, 0)]), True)
        self.assertIs(is_same_paper(value=((0, 0),), other=COPIES, one=COPIES), True)

    def test_of_yards_that_are_not_the_same_there_is_none(self):
        for one, other in [(COPIES, TURNING), (COPIES, HOLDS), (HOLDS, COPIES), (SPLIT_TURNED, SPLIT_PASSED)]:
            pairs = [(mine, yours) for mine in range(len(rests(one))) for yours in range(len(rests(other)))]
            for many in range(1, 2 ** len(pairs)):
                value = [pair for at, pair in enumerate(pairs) if many >> at & 1]
                self.assertIs(is_same_paper(one, other, value), False)

    def test_flows_of_the_empty_stream(self):
        begun = Yard([PASS, PASS], [(0, 0, 1, 0)], ((0, 0), ("01",)))
        self.assertIs(is_same_paper(begun, COPIES, [(0, 0)]), False)
        self.assertIs(is_same_paper(begun, begun, [(0, 0)]), True)

    def test_all_lists_of_pairs_of_small_yards(self):
        dice = Dice(332)
        held = 0
        for _ in range(12):
            one, other = some_two(dice)
            mine, yours = Steps(one), Steps(other)
            pairs = [(my_rest, your_rest) for my_rest in range(len(mine.rests)) for your_rest in range(len(yours.rests))]
            if len(pairs) > 6:
                continue
            for many in range(2 ** len(pairs)):
                value = [pair for at, pair in enumerate(pairs) if many >> at & 1]
                wanted = slow_is_same_paper(mine, yours, value)
                held += wanted
                self.assertIs(is_same_paper(one, other, value), wanted)
        self.assertGreater(held, 3)

    def test_pairs_to_which_no_streams_lead_are_let(self):
        # The two standings of the second one tell the same: all four pairs will do.
        double = Yard([Station(1, 1, [("1", [(("0",), 1, 1), (("1",), 1, 1)]), ("1", [(("0",), 0, 1), (("1",), 0, 1)])])], [])
        self.same(sorted(same_paper(double, double)), [(0, 0), (1, 1)])
        for value, wanted in [([(0, 0), (1, 1)], True), ([(0, 0), (1, 1), (0, 1), (1, 0)], True),
                              ([(0, 0), (1, 1), (0, 1)], False), ([(0, 1), (1, 0)], False), ([(1, 1), (0, 0)], True)]:
            self.assertIs(is_same_paper(double, double, value), wanted)

    def test_partings(self):
        for stream in all_texts(5):
            self.assertIs(is_parting(COPIES, LATE, stream), stream != slow_flows(LATE, stream)[0])
            self.assertIs(is_parting(HOLDS, joined(HOLDS, 0, COPIES), stream), False)
            self.assertIs(is_parting(SPLIT_TURNED, SPLIT_PASSED, stream), len(stream) > 1)
        self.assertIs(is_parting(COPIES, TURNING, "0" * 1000), True)
        for value in no_texts() + ["0" * 1001]:
            self.assertIs(is_parting(COPIES, TURNING, value), False)
        self.assertIs(is_parting(value="1", other=LATE, one=COPIES), True)

    def test_flows_that_are_unlike_at_a_beginning_and_alike_later(self):
        # 0 is given ahead by the one, behind by the other one: 00 is the same of both.
        early = Yard([Station(1, 1, [("1", [(("00",), 1, 1)] * 2), ("1", [(("",), 0, 1)] * 2)])], [])
        self.same([parting(early, EATING), is_parting(early, COPIES, "0")], ["0", True])
        self.same([is_parting(early, COPIES, stream) for stream in ("00", "000", "0000")], [False, True, False])


class Errors(Cases):
    def test_looking_through_the_one_and_then_the_other(self):
        many = {"what": "rests", "limit": 60}
        filling = {"stream": "0" * 7}
        signs = {"what": "signs", "limit": 16}
        for call in ALL:
            self.fails(errors.TooMany, many, call, counting(61), OVERVIEW)
            self.fails(errors.NotHeld, filling, call, OVERVIEW, counting(61))
            self.fails(errors.TooMany, signs, call, doubling(5), counting(61))
            self.fails(errors.TooMany, many, call, COPIES, counting(61))
            self.fails(errors.NotHeld, filling, call, one=COPIES, other=OVERVIEW)
        for call in JUDGES:
            for value in (None, [], [(0, 0)], "", "0", 5):
                self.fails(errors.TooMany, many, call, counting(61), OVERVIEW, value)
                self.fails(errors.NotHeld, filling, call, value=value, one=OVERVIEW, other=counting(61))
                self.fails(errors.TooMany, signs, call, COPIES, doubling(5), value)

    def test_other_exits_behind_all_of_these(self):
        three = Yard([COPY, COPY], [(0, 0, 1, 0)])
        for one, other, told in [(COPIES, TWO_EXITS, (1, 2)), (TWO_EXITS, COPIES, (2, 1)), (three, COPIES, (3, 1)),
                                 (TWO_EXITS, three, (2, 3))]:
            for call in ALL:
                self.fails(errors.OtherExits, {"one": told[0], "other": told[1]}, call, one, other)
            for call in JUDGES:
                for value in (None, [], [(0, 0)], "0", 5):
                    self.fails(errors.OtherExits, {"one": told[0], "other": told[1]}, call, one, other, value)
        for call in ALL:
            self.fails(errors.NotHeld, {"stream": "0" * 7}, call, TWO_EXITS, OVERVIEW)
            self.fails(errors.TooMany, {"what": "rests", "limit": 60}, call, counting(61), TWO_EXITS)

    def test_no_pairs_are_too_many(self):
        zeros, ones = counting(20, only("0")), counting(21, only("1"))
        self.same(are_same(zeros, ones), True)
        self.same(len(same_paper(zeros, ones)), 420)


class Unchanged(Cases):
    def test_what_was_passed(self):
        paper = same_paper(HOLDS, HOLDS)
        before = repr(paper)
        self.assertIs(is_same_paper(HOLDS, HOLDS, paper), True)
        self.assertEqual(repr(paper), before)
        self.assertIs(is_same_paper(HOLDS, HOLDS, with_tuples(paper)), True)
        paper.append((0, 1))
        self.assertIs(is_same_paper(HOLDS, HOLDS, paper), False)


if __name__ == "__main__":
    unittest.main()

"""[36]: exits that are the same for ever, ahead lists, and endless streams that part."""

import unittest

from flowyard import errors
from flowyard.forever import (ahead_list, are_same_for_ever, endless_flow, endless_parting, is_ahead_list,
                              is_endless_parting)
from flowyard.same import are_same
from flowyard.yards import Station, Yard, joined
from helper import COPY, HALF, OVERVIEW, PASS, SPLIT, TURN, TWICE, Cases, Dice, no_counts, odd_values
from slow_rests import Steps, endless_streams, small_held
from some_held import some_held
from some_yards import (BEGUN, COPIES, EATING, FORK, HOLDS, LATE, ONES, STOPS, TURNING, TWO_TURNS, counting, doubling,
                        only)
from spoiling import few, with_tuples, wrong_kinds

ALL = (are_same_for_ever, ahead_list, endless_parting)
JUDGES = (is_ahead_list, is_endless_parting)
DOCUMENT_LIST = [(0, 0, "", ""), (0, 1, "0", ""), (0, 2, "1", "")]
# Behind the first sign it gives 1 alone.
SETTLES = Yard([Station(1, 1, [("1", [(("0",), 1, 1), (("1",), 1, 1)]), ("1", [(("1",), 1, 1), (("11",), 1, 1)])])], [])


def left(mine, yours):
    while mine and yours and mine[0] == yours[0]:
        mine, yours = mine[1:], yours[1:]
    return mine, yours


class Judge:
    """A reading of [36] for two yards of few rests: it tries all short endless streams to find settled rests."""

    def __init__(self, one, one_exit, other, other_exit):
        self.sides = [(Steps(one), one_exit), (Steps(other), other_exit)]
        self.settled = [[self.settled_at(steps, outlet, rest) for rest in range(len(steps.rests))]
                        for steps, outlet in self.sides]

    def settled_at(self, steps, outlet, rest):
        flows = {steps.endless_flow(outlet, begin, lap, rest) for begin, lap in endless_streams(2, 3)}
        return flows.pop() if len(flows) == 1 else None

    def fits(self, rests, texts):
        flows = [self.settled[side][rests[side]] for side in (0, 1)]
        if None in flows:
            return False
        # Of two flows that go round, so many signs tell whether they are one.
        shown = [text + begin + lap * 60 for text, (begin, lap) in zip(texts, flows)]
        if "" in (flows[0][1], flows[1][1]):
            return shown[0] == shown[1]
        short = min(len(text) for text in shown)
        return shown[0][:short] == shown[1][:short]

    def start(self):
        return (0, 0), left(*[steps.first[outlet] for steps, outlet in self.sides])

    def behind(self, lead, sign):
        rests, texts = [], []
        for side, (steps, outlet) in enumerate(self.sides):
            goal, given = steps.steps[lead[side]][int(sign)]
            rests.append(goal)
            texts.append(given[outlet])
        silent = texts == ["", ""]
        return tuple(rests), left(lead[2] + texts[0], lead[3] + texts[1]), silent

    def allows(self, value):
        if len({lead[:2] for lead in value}) < len(value) or any(lead[2] and lead[3] for lead in value):
            return False
        wanted = [self.start()] + [self.behind(lead, sign)[:2] for lead in value for sign in "01"]
        if not all(rests + texts in value or self.fits(rests, texts) for rests, texts in wanted):
            return False
        for lead in value:
            if lead[2] + lead[3] and self.comes_back(value, lead):
                return False
        return True

    def comes_back(self, value, lead):
        met = []
        waiting = [lead]
        while waiting:
            here = waiting.pop()
            for sign in "01":
                rests, texts, silent = self.behind(here, sign)
                there = rests + texts
                if silent and there in value and there not in met:
                    met.append(there)
                    waiting.append(there)
        return lead in met


def some_two(dice):
    """Two yards of few rests, which are often the same for ever and not the same."""
    while True:
        one = some_held(dice)
        other = dice.one_of([joined(one, 0, HOLDS), joined(HOLDS, 0, one), joined(one, 0, COPIES), some_held(dice), one,
                             joined(joined(one, 0, HOLDS), 0, joined(Yard([TWICE], []), 0, Yard([HALF], [])))])
        if small_held(one, 4) and small_held(other, 6):
            return (one, other) if dice.below(2) else (other, one)


class PartingCases(Cases):
    def parts(self, one, one_exit, other, other_exit, value):
        self.assertIsInstance(value, tuple)
        self.assertLessEqual(max(len(text) for text in value), 8000)
        self.assertIs(is_endless_parting(one, one_exit, other, other_exit, value), True)
        self.assertNotEqual(endless_flow(one, one_exit, *value), endless_flow(other, other_exit, *value))


class SameForEver(PartingCases):
    def test_the_documents_yards(self):
        self.same([are_same_for_ever(COPIES, 0, HOLDS, 0), is_ahead_list(COPIES, 0, HOLDS, 0, DOCUMENT_LIST)], [True, True])
        self.same(are_same_for_ever(ONES, 0, COPIES, 0), False)
        self.same(are_same(COPIES, HOLDS), False)

    def test_the_same_and_more(self):
        late_held = joined(LATE, 0, HOLDS)
        for one, other in [(COPIES, COPIES), (COPIES, TWO_TURNS), (COPIES, HOLDS), (LATE, late_held), (EATING, counting(60)),
                           (ONES, joined(ONES, 0, HOLDS)), (COPIES, joined(HOLDS, 0, HOLDS)), (STOPS, joined(STOPS, 0, COPIES)),
                           (SETTLES, joined(SETTLES, 0, HOLDS)), (FORK, joined(FORK, 0, COPIES)),
                           (joined(Yard([TWICE], []), 0, HOLDS), Yard([TWICE], []))]:
            for mine, yours in [(one, other), (other, one)]:
                self.same([are_same_for_ever(mine, 0, yours, 0), endless_parting(mine, 0, yours, 0)], [True, None])
                self.assertIs(is_ahead_list(mine, 0, yours, 0, ahead_list(mine, 0, yours, 0)), True)

    def test_unlike_for_ever(self):
        for one, other in [(COPIES, TURNING), (COPIES, LATE), (ONES, COPIES), (COPIES, EATING), (STOPS, COPIES),
                           (STOPS, joined(STOPS, 0, HOLDS)), (BEGUN, COPIES), (FORK, STOPS), (ONES, EATING), (HOLDS, joined(HOLDS, 0, TURNING))]:
            for mine, yours in [(one, other), (other, one)]:
                self.same([are_same_for_ever(mine, 0, yours, 0), ahead_list(mine, 0, yours, 0)], [False, None])
                self.parts(mine, 0, yours, 0, endless_parting(mine, 0, yours, 0))

    def test_what_is_left_at_last(self):
        # The one stops, the other one goes on by a sign; none is ahead where nothing is left.
        self.same(are_same_for_ever(STOPS, 0, joined(STOPS, 0, HOLDS), 0), False)
        stream = endless_parting(STOPS, 0, joined(STOPS, 0, HOLDS), 0)
        flows = [endless_flow(STOPS, 0, *stream), endless_flow(joined(STOPS, 0, HOLDS), 0, *stream)]
        self.same([lap for _, lap in flows], ["", ""])
        self.same(len(flows[0][0]) - len(flows[1][0]), 1)

    def test_settled_ones_of_any_pace(self):
        # Ones and nothing else, one by one and two by two: the lead grows for ever.
        slow_ones = joined(ONES, 0, Yard([HALF], []))
        self.same(are_same_for_ever(ONES, 0, slow_ones, 0), True)
        self.assertIs(is_ahead_list(ONES, 0, slow_ones, 0, []), True)
        self.assertIs(is_ahead_list(ONES, 0, slow_ones, 0, ()), True)
        begun = joined(EATING, 0, Yard([PASS, PASS], [(0, 0, 1, 0)], ((0, 0), ("11",))))
        self.same(are_same_for_ever(begun, 0, EATING, 0), False)

    def test_exits_by_their_numbers(self):
        yard = Yard([SPLIT, TURN], [(0, 1, 1, 0)])
        split = Yard([SPLIT], [])
        for one_exit, other_exit, wanted in [(0, 0, True), (0, 1, False), (1, 0, False), (1, 1, False)]:
            self.same(are_same_for_ever(yard, one_exit, split, other_exit), wanted)
        half = joined(Yard([Station(1, 1, [("1", [(("0",), 1, 1), (("1",), 1, 1)]), ("1", [(("",), 0, 1)] * 2)])], []), 0, HOLDS)
        self.same(are_same_for_ever(split, 0, half, 0), True)
        self.same(are_same_for_ever(other_exit=1, other=split, one_exit=0, one=half), False)
        copies = Yard([COPY], [])
        self.same([are_same_for_ever(copies, 0, copies, 1), are_same_for_ever(COPIES, 0, copies, 1)], [True, True])
        self.assertIs(is_ahead_list(COPIES, 0, copies, 1, [(0, 0, "", "")]), True)

    def test_leads_of_many_signs(self):
        # Sixteen signs of each are given at once, or with the next one.
        late = Station(1, 1, [("1", [(("",), 1, 1), (("",), 2, 1)]), ("1", [(("0",), 1, 1), (("0",), 2, 1)]),
                              ("1", [(("1",), 1, 1), (("1",), 2, 1)])])
        many = Yard([late, TWICE, TWICE, TWICE, TWICE], [(k, 0, k + 1, 0) for k in range(4)])
        found = ahead_list(doubling(4), 0, many, 0)
        self.same(sorted(found), [(0, 0, "", ""), (0, 1, "0" * 16, ""), (0, 2, "1" * 16, "")])
        self.same(sorted(ahead_list(many, 0, doubling(4), 0)), [(0, 0, "", ""), (1, 0, "", "0" * 16), (2, 0, "", "1" * 16)])

    def test_many_yards_by_all_short_endless_streams(self):
        dice = Dice(361)
        ever = 0
        for _ in range(70):
            one, other = some_two(dice)
            mine, yours = Steps(one), Steps(other)
            unlike = [stream for stream in endless_streams(2, 2)
                      if mine.endless_flow(0, *stream) != yours.endless_flow(0, *stream)]
            found = ahead_list(one, 0, other, 0)
            stream = endless_parting(one, 0, other, 0)
            self.same(are_same_for_ever(one, 0, other, 0), found is not None)
            self.same(stream is None, found is not None)
            if found is not None:
                self.same(unlike, [])
                self.assertIs(Judge(one, 0, other, 0).allows(found), True)
                self.assertIs(is_ahead_list(one, 0, other, 0, found), True)
                ever += not are_same(one, other)
            else:
                self.parts(one, 0, other, 0, stream)
                self.assertNotEqual(mine.endless_flow(0, *stream), yours.endless_flow(0, *stream))
        self.assertGreater(ever, 8)


class AheadLists(PartingCases):
    def test_less_more_and_twice(self):
        for one, other in [(COPIES, HOLDS), (HOLDS, COPIES), (LATE, joined(LATE, 0, HOLDS)), (COPIES, joined(HOLDS, 0, HOLDS)),
                           (FORK, joined(FORK, 0, COPIES)), (STOPS, STOPS)]:
            paper = ahead_list(one, 0, other, 0)
            for value in (paper, paper[::-1], tuple(paper), paper[1:] + paper[:1]):
                self.assertIs(is_ahead_list(one, 0, other, 0, value), True)
            for at, lead in enumerate(paper):
                self.assertIs(is_ahead_list(one, 0, other, 0, paper[:at] + paper[at + 1:]), False)
                self.assertIs(is_ahead_list(one, 0, other, 0, paper + [lead]), False)
                for more in [lead[:2] + (lead[2] + "0", ""), lead[:2] + ("", lead[3] + "1"), lead[:2] + ("0", "1")]:
                    self.assertIs(is_ahead_list(one, 0, other, 0, paper + [more]), False)
                    changed = paper[:at] + [more] + paper[at + 1:]
                    self.assertIs(is_ahead_list(one, 0, other, 0, changed), False)
            for value in few(wrong_kinds(paper), 60):
                self.assertIs(is_ahead_list(one, 0, other, 0, value), False)

    def test_any_value(self):
        for value in odd_values() + [[], (), "", 0, [None], [()], [(0, 0)], [(0, 0, "")], [[0, 0, "", ""]],
                                     [(0, 0, "", "", "")], [(1, 0, "", "")], [(0, 1, "", "")], [(-1, 0, "", "")],
                                     [(0, 0, "0", "")], [(0, 0, "", "0")], [(0, 0, "0", "0")], [(False, 0, "", "")],
                                     [(0, False, "", "")], [(0, 0, "", "")] * 2, {(0, 0, "", "")}, [(0, 0, "", "2")]]:
            self.assertIs(is_ahead_list(COPIES, 0, COPIES, 0, value), False)
        self.assertIs(is_ahead_list(COPIES, 0, COPIES, 0, [(0, 0, "", "")]), True)
        self.assertIs(is_ahead_list(value=DOCUMENT_LIST, other_exit=0, other=HOLDS, one_exit=0, one=COPIES), True)

    def test_settled_ones_may_stand_in_it_or_not(self):
        for value, wanted in [([], True), ([(0, 0, "", "")], True), ([(0, 0, "1", "")], True), ([(0, 0, "", "11")], True),
                              ([(0, 0, "0", "")], False), ([(0, 0, "10", "")], False)]:
            self.assertIs(is_ahead_list(ONES, 0, ONES, 0, value), wanted)
        self.assertIs(is_ahead_list(ONES, 0, EATING, 0, []), False)
        self.assertIs(is_ahead_list(ONES, 0, EATING, 0, [(0, 0, "", "")]), False)

    def test_no_signs_left_on_a_way_that_gives_nothing(self):
        # Both give 1 for each 1, the second one for all but the first; 0 gives nothing, as often as it comes.
        soon = Yard([Station(1, 1, [("1", [(("",), 0, 1), (("1",), 0, 1)])])], [])
        late = Yard([Station(1, 1, [("1", [(("",), 0, 1), (("",), 1, 1)]), ("1", [(("",), 1, 1), (("1",), 1, 1)])])], [])
        self.assertIs(is_ahead_list(soon, 0, late, 0, [(0, 0, "", ""), (0, 1, "1", "")]), False)
        self.assertIs(is_ahead_list(late, 0, soon, 0, [(0, 0, "", ""), (1, 0, "", "1")]), False)
        self.parts_at_last(soon, late)
        # Here 0 and 1 by turns give nothing, and 00 and 11 give 1.
        rows = [[1, 2], ["1", 0], [0, "1"]]
        turns = [("1", [(("1",), 0, 1) if goal == "1" else (("",), goal, 1) for goal in row]) for row in rows]
        late = joined(Yard([Station(1, 1, turns)], []), 0, late)
        self.parts_at_last(Yard([Station(1, 1, turns)], []), late)
        steps = Steps(late)
        leads = [(number, rest, *texts) for number in range(3) for rest, texts in
                 [(at, ("1" if state[0][1] else "", "")) for at, state in enumerate(steps.rests) if state[0][0] == number]]
        self.same(len(leads), 6)
        self.assertIs(is_ahead_list(Yard([Station(1, 1, turns)], []), 0, late, 0, leads), False)

    def parts_at_last(self, one, other):
        """They part, by a stream of which both flows are finite."""
        for mine, yours in [(one, other), (other, one)]:
            stream = endless_parting(mine, 0, yours, 0)
            self.parts(mine, 0, yours, 0, stream)
            self.same([endless_flow(yard, 0, *stream)[1] for yard in (mine, yours)], ["", ""])

    def test_a_silent_way_that_leads_on_is_let(self):
        # 0 is given by both, but by the other one behind two more signs, which give nothing.
        slow = Yard([Station(1, 1, [("1", [(("",), 1, 1)] * 2), ("1", [(("",), 2, 1)] * 2), ("1", [(("0",), 0, 1), (("1",), 0, 1)])])], [])
        soon = Yard([Station(1, 1, [("1", [(("",), 1, 1)] * 2), ("1", [(("",), 2, 1)] * 2), ("1", [(("0",), 3, 1), (("1",), 3, 1)]),
                                    ("1", [(("",), 1, 1)] * 2)])], [])
        self.same(are_same_for_ever(slow, 0, soon, 0), True)
        late = joined(slow, 0, HOLDS)
        paper = ahead_list(slow, 0, late, 0)
        self.assertTrue([lead for lead in paper if lead[2]])
        self.assertIs(is_ahead_list(slow, 0, late, 0, paper), True)

    def test_leads_to_which_no_streams_lead_are_let(self):
        # From the standings 1 on nothing else is ever given than from 0 on.
        double = Yard([Station(1, 1, [("1", [(("0",), 1, 1), (("1",), 1, 1)]), ("1", [(("0",), 0, 1), (("1",), 0, 1)])])], [])
        paper = ahead_list(double, 0, double, 0)
        self.same(sorted(paper), [(0, 0, "", ""), (1, 1, "", "")])
        for value, wanted in [(paper + [(0, 1, "", ""), (1, 0, "", "")], True), (paper + [(0, 1, "", "")], False),
                              (paper + [(0, 1, "0", ""), (1, 0, "0", "")], False)]:
            self.assertIs(is_ahead_list(double, 0, double, 0, value), wanted)

    def test_many_lists_of_small_yards(self):
        dice = Dice(362)
        counts = [0, 0]
        for _ in range(25):
            one, other = some_two(dice)
            judge = Judge(one, 0, other, 0)
            paper = ahead_list(one, 0, other, 0) or []
            rows = [[len(steps.rests) for steps, _ in judge.sides]] * 20
            for mine, yours in rows:
                value = [lead for lead in paper if dice.below(8)]
                for _ in range(dice.below(3)):
                    texts = dice.one_of([("", ""), (dice.text(2), ""), ("", dice.text(2))])
                    value.append((dice.below(mine), dice.below(yours), *texts))
                wanted = judge.allows(value)
                counts[wanted] += 1
                self.assertIs(is_ahead_list(one, 0, other, 0, value), wanted)
        self.assertGreater(min(counts), 40)


class EndlessPartings(Cases):
    def test_all_short_ones(self):
        for one, other in [(COPIES, LATE), (ONES, COPIES), (COPIES, HOLDS), (STOPS, joined(STOPS, 0, HOLDS)), (FORK, STOPS)]:
            mine, yours = Steps(one), Steps(other)
            for stream in endless_streams(3, 3):
                wanted = mine.endless_flow(0, *stream) != yours.endless_flow(0, *stream)
                self.assertIs(is_endless_parting(one, 0, other, 0, stream), wanted)
                self.assertIs(is_endless_parting(value=stream, other_exit=0, other=one, one_exit=0, one=other), wanted)

    def test_of_any_length(self):
        self.assertIs(is_endless_parting(COPIES, 0, TURNING, 0, ("0" * 2000, "01" * 1000)), True)
        self.assertIs(is_endless_parting(COPIES, 0, LATE, 0, ("0" * 1999, "0" * 2000)), False)
        self.assertIs(is_endless_parting(COPIES, 0, LATE, 0, ("0" * 1999, "0" * 1999 + "1")), True)
        self.assertIs(is_endless_parting(COPIES, 0, HOLDS, 0, ("0" * 1999, "1" * 1999)), False)

    def test_any_value(self):
        self.assertIs(is_endless_parting(COPIES, 0, TURNING, 0, ("", "0")), True)
        for value in odd_values() + [[], (), "", "00", "0", 0, ("",), ("", ""), ["", "0"], ("", "0", ""), ("0", ""), (0, "0"),
                                     ("", 0), (None, "0"), ("", ["0"]), ("2", "0"), ("", "2")]:
            self.assertIs(is_endless_parting(COPIES, 0, TURNING, 0, value), False)
        for value in wrong_kinds(("01", "10")):
            self.assertIs(is_endless_parting(COPIES, 0, TURNING, 0, value), False)
        self.assertIs(is_endless_parting(COPIES, 0, TURNING, 0, with_tuples(("0", "1"))), True)


class Errors(Cases):
    def test_exits_in_their_sequence(self):
        wrong = no_counts() + [1, 10 ** 29]
        for one, other in [(COPIES, HOLDS), (OVERVIEW, counting(61))]:
            for call in ALL:
                self.fails_on(errors.InvalidExit, wrong, lambda value: call(one, value, other, None))
                self.fails_on(errors.InvalidExit, wrong, lambda value: call(one, 0, other, value))
            for call in JUDGES:
                self.fails_on(errors.InvalidExit, wrong, lambda value: call(one, value, other, None, None))
                self.fails_on(errors.InvalidExit, wrong, lambda value: call(one, 0, other, value, DOCUMENT_LIST))
        self.fails(errors.InvalidExit, {"value": 1}, ahead_list, one_exit=1, one=COPIES, other=Yard([SPLIT], []), other_exit=1)
        self.fails(errors.InvalidExit, {"value": 2}, ahead_list, one_exit=0, one=COPIES, other=Yard([SPLIT], []), other_exit=2)

    def test_looking_through_the_one_and_then_the_other(self):
        many = {"what": "rests", "limit": 60}
        filling = {"stream": "0" * 7}
        for call in ALL + JUDGES:
            more = [[]] if call in JUDGES else []
            self.fails(errors.TooMany, many, call, counting(61), 0, OVERVIEW, 0, *more)
            self.fails(errors.NotHeld, filling, call, OVERVIEW, 0, counting(61), 0, *more)
            self.fails(errors.TooMany, {"what": "signs", "limit": 16}, call, doubling(5), 0, OVERVIEW, 0, *more)
            self.fails(errors.TooMany, many, call, COPIES, 0, counting(61), 0, *more)
            self.fails(errors.NotHeld, filling, call, COPIES, 0, OVERVIEW, 0, *more)

    def test_pairs_behind_all_of_these(self):
        zeros, ones = counting(20, only("0")), counting(20, only("1"))
        more_ones = counting(21, only("1"))
        self.same(are_same_for_ever(zeros, 0, ones, 0), True)
        self.assertIs(is_ahead_list(zeros, 0, ones, 0, []), True)
        for one, other in [(zeros, more_ones), (more_ones, zeros)]:
            for call in ALL:
                self.fails(errors.TooMany, {"what": "pairs", "limit": 400}, call, one, 0, other, 0)
            for call in JUDGES:
                for value in (None, [], ("", "0")):
                    self.fails(errors.TooMany, {"what": "pairs", "limit": 400}, call, one, 0, other, 0, value)
        self.same(are_same_for_ever(counting(60), 0, counting(60), 0), True)
        self.same(endless_parting(counting(60), 0, joined(counting(60), 0, COPIES), 0), None)

    def test_pairs_count_whatever_is_given(self):
        # The flows part at once; there are as many pairs all the same.
        zeros = counting(20, only("0"))
        split = Yard([COPY, *counting(21, only("1")).stations],
                     [(0, 0, 1, 0), (1, 0, 2, 0), (2, 0, 3, 0), (3, 0, 4, 0)], ((0, 0, 3, 2, 2), ("",) * 4))
        for outlet in (0, 1):
            self.fails(errors.TooMany, {"what": "pairs", "limit": 400}, are_same_for_ever, zeros, 0, split, outlet)


class Unchanged(Cases):
    def test_what_was_passed_and_returned(self):
        paper = ahead_list(COPIES, 0, HOLDS, 0)
        before = repr(paper)
        self.assertIs(is_ahead_list(COPIES, 0, HOLDS, 0, paper), True)
        self.assertEqual(repr(paper), before)
        paper.clear()
        self.same(sorted(ahead_list(COPIES, 0, HOLDS, 0)), DOCUMENT_LIST)
        self.same(endless_parting(COPIES, 0, LATE, 0), endless_parting(COPIES, 0, LATE, 0))


if __name__ == "__main__":
    unittest.main()

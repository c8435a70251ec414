"""[74], [75]: sure lists, alarms, where they ring, sure papers and alarm papers."""

import unittest

from flowyard import errors
from flowyard.alarms import (alarm_paper, alarms, is_alarm_paper, is_sure, is_sure_paper, is_unsure, rings_at,
                             sure_paper,
                             unsure_stream)
from flowyard.taps import can_be_heard, first_stream, rests_behind
from flowyard.yards import Station, Yard, joined
from helper import PASS, TWICE, Cases, Dice, no_counts, no_texts, odd_values
from slow_rests import all_texts
from slow_taps import Listening, is_part_of, parts_of_text
from some_held import some_held
from some_looked import fails_looking
from some_taps import HELD, HUNDRED, HUNDRED_AND_ONE, LATCH, OPENS, giving, some_latched, spots, zeros
from some_yards import COPIES, EATING, HOLDS, LATE, counting
from spoiling import few, with_tuples, wrong_kinds
from test_watch import TWO_EXITS

NO_RESTS = [value for value in odd_values()
            if value != []] + ["", "0", 0, [-1], [True], [0, False], [None], ["0"], [0, 0], (1, 2, 1), [[0]], {0: 1},
                               {0}, [0, -1], [10 ** 29, 10 ** 29]]
# It counts its signs up to three, and gives the number each time.
COUNTS = Yard([Station(1, 1, [("1", [((("0", "10", "11", "1")[k],), min(k + 1, 3), 1)] * 2) for k in range(4)])], [])


def some_listened(dice, most=7):
    yard = dice.one_of([some_held, some_latched, some_latched, some_latched])(dice)
    if dice.below(3) == 0:
        yard = joined(yard, 0, dice.one_of([Yard([LATCH], []), giving("10", PASS), giving("01", OPENS),
                                            Yard([TWICE], [])]))
    return yard, Listening(yard, 0, most)


def some_rests(dice, many):
    """Often the last ones, which latched yards keep to."""
    rests = dice.one_of([[many - 1], list(range(1, many)), list(range(many // 2, many)),
                         [rest for rest in range(many) if dice.below(2)]])
    return rests + [many + 3] * dice.below(2)


class Sure(Cases):
    def test_the_documents_yard(self):
        self.same([alarms(HELD, 0, [1]), alarms(HELD, 0, [0]), alarms(HELD, 0, [1, 0]), is_sure(HELD, 0, [1], "01")],
                  [["1"], [], [""], True])
        self.same([rings_at(HELD, 0, [1], "0010"), unsure_stream(HELD, 0, [1], "00"),
                   unsure_stream(HELD, 0, [1], "10")], [3, "00", None])

    def test_some(self):
        for text, rests, wanted in [("", [0], False), ("", [1], False), ("", [0, 1], True), ("0", [0], False),
                                    ("1", [1], True), ("1", [0], False),
                                    ("1", [7, 1], True), ("00", [1], False), ("0", (1, 0, 5), True)]:
            self.assertIs(is_sure(HELD, 0, rests, text), wanted)
            self.same(unsure_stream(HELD, 0, rests, text) is None, wanted)

    def test_never_heard(self):
        for text in ("10", "0110"):
            self.fails(errors.NeverHeard, {"value": text}, is_sure, HELD, 0, [0, 1], text)
            self.same([unsure_stream(HELD, 0, [], text), sure_paper(HELD, 0, [0, 1], text),
                       alarm_paper(HELD, 0, [0, 1], text)], [None] * 3)
            self.assertIs(is_unsure(HELD, 0, [], text, "10"), False)
        self.fails(errors.NeverHeard, {"value": "0"}, is_sure, text="0", rests=[], outlet=0, yard=EATING)

    def test_numbers_that_no_rest_has_say_nothing(self):
        for rests in ([2], [2, 10 ** 29], []):
            self.assertIs(is_sure(HELD, 0, rests, ""), False)
            self.same([unsure_stream(HELD, 0, rests, ""), alarms(HELD, 0, rests), rings_at(HELD, 0, rests, "0101")],
                      ["", [], None])
        self.same(alarms(HELD, 0, [1, 99]), ["1"])

    def test_by_the_exit(self):
        self.same([unsure_stream(TWO_EXITS, 0, [1], "1"), unsure_stream(TWO_EXITS, 1, [0], "1")], ["10", "010"])
        self.same(rests_behind(TWO_EXITS, 1, "1"), [0, 1])

    def test_many_by_all_short_streams(self):
        dice = Dice(741)
        counts = [0, 0]
        for _ in range(80):
            yard, slow = some_listened(dice)
            many = len(slow.steps.rests)
            for _ in range(4):
                text, rests = dice.text(3), some_rests(dice, many)
                stream = slow.first_stream(text, rests)
                found = unsure_stream(yard, 0, rests, text)
                if not can_be_heard(yard, 0, text):
                    self.same([found, slow.first_stream(text)], [None, None])
                    continue
                sure = is_sure(yard, 0, rests, text)
                counts[sure] += 1
                self.same([sure, found is None], [set(rests_behind(yard, 0, text)) <= set(rests)] * 2)
                if stream is not None or many * (len(text) + 1) <= 8:
                    self.same(found, stream)
                if found is not None:
                    rest, flow = slow.behind(found)
                    self.assertTrue(rest not in rests and is_part_of(text, flow))
                    self.assertIs(is_unsure(yard, 0, rests, text, found), True)
                for value in few(all_texts(4), 9):
                    rest, flow = slow.behind(value)
                    self.assertIs(is_unsure(yard, 0, rests, text, value), rest not in rests and is_part_of(text, flow))
        self.assertGreater(min(counts), 60)

    def test_unsure_streams_of_any_value(self):
        for value in no_texts() + ["0" * 1001]:
            self.assertIs(is_unsure(HELD, 0, [1], "", value), False)
        self.assertIs(is_unsure(HELD, 0, [1], "", "0" * 1000), True)
        self.assertIs(is_unsure(value="0", text="", rests=(1,), outlet=0, yard=HELD), True)
        self.assertIs(is_unsure(HELD, 0, [1], "", "1"), False)


class Alarms(Cases):
    def test_some(self):
        for yard, rests, told in [(COPIES, [0], [""]), (COPIES, [], []), (EATING, [0], [""]),
                                  (giving("01", OPENS), [1], ["00", "10", "11"]),
                                  (giving("01", OPENS), [0], []), (LATE, [0], []), (LATE, [1, 0], [""])]:
            self.same(alarms(yard, 0, rests), told)
        self.same(alarms(rests=(1,), outlet=0, yard=HELD), ["1"])

    def test_unheard_texts_are_none(self):
        # Behind 10 nothing stands, and so no rest that is not in the list: but it cannot be heard.
        self.same([alarms(HELD, 0, [0]), alarms(giving("010"), 0, [])], [[], []])
        self.same(alarms(COUNTS, 0, [2, 3]), ["1", "00"])
        self.same(alarms(COUNTS, 0, [3]), ["11", "001"])

    def test_many_by_trying_all_short_texts(self):
        dice = Dice(742)
        some = 0
        for _ in range(60):
            yard, slow = some_listened(dice, 1)
            rests = some_rests(dice, len(slow.steps.rests))
            told = alarms(yard, 0, rests)
            self.same(told, sorted(told, key=lambda text: (len(text), text)))
            heard = [text for text in all_texts(5) if can_be_heard(yard, 0, text)]
            sure = {text for text in heard if set(rests_behind(yard, 0, text)) <= set(rests)}
            least = [text for text in all_texts(5) if text in sure and not parts_of_text(text) & sure]
            self.same([text for text in told if len(text) <= 5], least)
            some += least not in ([], [""])
            for text in heard:
                self.same(text in sure, any(is_part_of(each, text) for each in told))
                self.same(is_sure(yard, 0, rests, text), text in sure)
        self.assertGreater(some, 12)

    def test_a_hundred_and_more(self):
        found = alarms(giving(HUNDRED, OPENS), 0, [1])
        self.same([len(found), len(set(found))], [100, 100])
        for text in few(found, 12):
            self.same(is_part_of(text, HUNDRED), False)
            self.same([is_part_of(text[:at] + text[at + 1:], HUNDRED) for at in range(len(text))], [True] * len(text))
        self.fails(errors.TooMany, {"what": "alarms", "limit": 100}, alarms, giving(HUNDRED_AND_ONE, OPENS), 0, [1])
        # The texts that are not heard are as many, and count for nothing.
        self.same(alarms(giving(HUNDRED_AND_ONE), 0, [0]), [""])
        self.same(alarms(giving(HUNDRED_AND_ONE), 0, []), [])

    def test_two_hundred_views_and_more(self):
        self.same(alarms(zeros(199), 0, list(range(24))), [""])
        for rests in ([], [0], list(range(24))):
            self.fails(errors.TooMany, {"what": "views", "limit": 200}, alarms, zeros(200), 0, rests)
        self.same([is_sure(zeros(200), 0, [0], "0"), rings_at(zeros(200), 0, list(range(24)), "")], [False, 0])

    def test_where_they_ring(self):
        for stream, told in [("", None), ("0", None), ("000", None), ("1", 1), ("01", 2), ("0010", 3), ("111", 1),
                             ("0" * 999 + "1", 1000),
                             ("0" * 1000, None)]:
            self.same(rings_at(HELD, 0, [1], stream), told)
        self.same([rings_at(HELD, 0, [0, 1], "01"), rings_at(COUNTS, 0, [3], "000"),
                   rings_at(stream="000", rests=[2, 3], outlet=0, yard=COUNTS)],
                  [0, 3, 2])

    def test_where_they_ring_in_all_short_streams(self):
        dice = Dice(743)
        rung = 0
        for _ in range(40):
            yard, slow = some_listened(dice, 1)
            rests = some_rests(dice, len(slow.steps.rests))
            told = alarms(yard, 0, rests)
            for stream in few(all_texts(5), 20):
                flows = [slow.behind(stream[:many])[1] for many in range(len(stream) + 1)]
                rings = [many for many, flow in enumerate(flows) if any(is_part_of(text, flow) for text in told)]
                self.same(rings_at(yard, 0, rests, stream), (rings + [None])[0])
                rung += bool(rings) and rings[0] > 0
        self.assertGreater(rung, 40)


class SurePapers(Cases):
    def test_many(self):
        dice = Dice(751)
        found = 0
        for _ in range(60):
            yard, slow = some_listened(dice, 1)
            for _ in range(3):
                text, rests = dice.text(4), some_rests(dice, len(slow.steps.rests))
                paper = sure_paper(yard, 0, rests, text)
                sure = can_be_heard(yard, 0, text) and is_sure(yard, 0, rests, text)
                self.same(paper is not None, sure)
                if paper is not None:
                    found += 1
                    self.same([type(paper), type(paper[1])], [tuple, list])
                    self.assertLess(len(paper[1]), 4000)
                    self.assertIs(slow.is_sure_paper(rests, text, *paper), True)
                    self.assertIs(is_sure_paper(yard, 0, rests, text, paper), True)
                    self.assertIs(is_sure_paper(yard, 0, rests, text, with_tuples(paper)), True)
        self.assertGreater(found, 40)

    def test_less_more_and_twice(self):
        stream, spots_told = sure_paper(HELD, 0, [1], "01")
        self.same(sorted(spots_told), [(0, "", 0), (0, "", 1), (0, "0", 0), (0, "0", 1), (1, "", 0), (1, "", 1),
                                       (1, "", 2), (1, "1", 0), (1, "1", 1),
                                       (1, "1", 2)])
        for at in range(len(spots_told)):
            self.assertIs(is_sure_paper(HELD, 0, [1], "01", (stream, spots_told[:at] + spots_told[at + 1:])), False)
            self.assertIs(is_sure_paper(HELD, 0, [1], "01", (stream, spots_told + [spots_told[at]])), True)
        self.assertIs(is_sure_paper(HELD, 0, [1], "01", (stream, spots_told[::-1])), True)
        for more, wanted in [((0, "", 2), False), ((1, "0", 1), True), ((1, "1111", 2), False), ((1, "1", 3), False),
                             ((2, "", 0), False), ((0, "11", 0), False)]:
            self.assertIs(is_sure_paper(HELD, 0, [1], "01", (stream, spots_told + [more])), wanted)
        # Further ones with what comes of them are let.
        further = [(1, "111", 2), (1, "11", 2)]
        self.assertIs(is_sure_paper(HELD, 0, [1], "01", (stream, spots_told + further)), True)
        for told, wanted in [("01", True), ("011", True), ("0" * 900 + "1", True), ("0", False), ("", False),
                             ("10", False), ("0" * 1500 + "1", True)]:
            self.assertIs(is_sure_paper(HELD, 0, [1], "01", (told, spots_told)), wanted)

    def test_sure_by_the_rests_alone(self):
        stream, spots_told = sure_paper(HELD, 0, [0, 1], "0")
        for rests, wanted in [([0, 1], True), ([1, 0, 7], True), ([0], False), ([1], False), ([], False)]:
            self.assertIs(is_sure_paper(HELD, 0, rests, "0", (stream, spots_told)), wanted)

    def test_lists_by_the_words_of_the_point(self):
        dice = Dice(752)
        counts = [0, 0]
        for _ in range(40):
            yard, slow = some_listened(dice, 1)
            many = len(slow.steps.rests)
            text, rests = dice.text(2), list(range(many)) if dice.below(2) else some_rests(dice, many)
            paper = sure_paper(yard, 0, list(range(many)), text)
            if paper is None:
                continue
            for _ in range(10):
                told = [spot for spot in paper[1] if dice.below(20)]
                told += [(dice.below(many), dice.text(2), dice.below(len(text) + 1)) for _ in range(dice.below(2))]
                stream = dice.one_of([paper[0], paper[0] + dice.text(2), dice.text(4)])
                wanted = slow.is_sure_paper(rests, text, stream, told)
                counts[wanted] += 1
                self.assertIs(is_sure_paper(yard, 0, rests, text, (stream, told)), wanted)
        self.assertGreater(min(counts), 50)

    def test_any_value(self):
        paper = sure_paper(HELD, 0, [1], "1")
        for value in few(wrong_kinds(paper),
                         150) + odd_values() + [[], (), "", 0, ("1",), ("1", []), ("1", paper[1], []), list(paper),
                                                ("1", None), ("1", [None]), ("1", [[*spot] for spot in paper[1]]),
                                                ("2", paper[1])]:
            self.assertIs(is_sure_paper(HELD, 0, [1], "1", value), False)
        for spot in [(False, "", 0), (True, "", 0), (0, "", False), (1, "", True), (0, None, 0), (0, 0, 0),
                     (0, "x", 0), (-1, "", 0), (0, "", -1),
                     (0, ""), (0, "", 0, 0), [0, "", 0], "000", (0, "", 2), (2, "", 0), (0, ["0"], 0), (0, "", "0")]:
            self.assertIs(is_sure_paper(HELD, 0, [1], "1", ("1", paper[1] + [spot])), False)
        # No more signs are met than the text has, however closed the list is.
        beyond = [(rest, left, 2) for rest, left in [(0, ""), (0, "0"), (1, ""), (1, "1")]]
        self.assertIs(is_sure_paper(HELD, 0, [1], "1", ("1", paper[1] + beyond)), False)
        self.assertIs(is_sure_paper(value=paper, text="1", rests=[1], outlet=0, yard=HELD), True)

    def test_eight_signs_and_nine(self):
        for text in ("0" * 8, "0" * 7 + "1"):
            for rests in ([0, 1], [1], []):
                paper = sure_paper(HELD, 0, rests, text)
                self.same(paper is not None, is_sure(HELD, 0, rests, text))
        for text in ("0" * 9, "0" * 8 + "1", "10" * 5, "1" * 2000):
            for rests in ([0, 1], [1], []):
                for call in (sure_paper, alarm_paper):
                    self.fails(errors.TooMany, {"what": "signs", "limit": 8}, call, HELD, 0, rests, text)
                self.assertIs(is_sure_paper(HELD, 0, rests, text, None), False)
                self.assertIs(is_alarm_paper(HELD, 0, rests, text, None), False)
        # Longer ones have papers, too, which are judged.
        closed = [(0, "", 0), (0, "0", 0)] + [(1, left, met) for left in ("", "1") for met in range(10)]
        self.assertIs(is_sure_paper(HELD, 0, [1], "1" * 9, ("1" * 9, closed)), True)

    def test_the_greatest_lists(self):
        paper = sure_paper(spots(4), 0, list(range(12)), "01010101")
        self.assertIs(is_sure_paper(spots(4), 0, list(range(12)), "01010101", paper), True)
        self.same([len(paper[1]) < 3600, len(paper[1]) > 3000], [True, True])


class AlarmPapers(Cases):
    def test_many(self):
        dice = Dice(753)
        found = 0
        for _ in range(80):
            yard, slow = some_listened(dice, 1)
            rests = some_rests(dice, len(slow.steps.rests))
            told = alarms(yard, 0, rests)
            for text in few(told, 3) + [dice.text(3) for _ in range(3)]:
                paper = alarm_paper(yard, 0, rests, text)
                self.same(paper is not None, text in told)
                if paper is not None:
                    found += text != ""
                    stream, spots_told, streams = paper
                    self.assertIs(slow.is_sure_paper(rests, text, stream, spots_told), True)
                    self.same(len(streams), len(text))
                    for at, each in enumerate(streams):
                        rest, flow = slow.behind(each)
                        self.assertTrue(rest not in rests and is_part_of(text[:at] + text[at + 1:], flow))
                    self.assertIs(is_alarm_paper(yard, 0, rests, text, paper), True)
                    self.assertIs(is_alarm_paper(yard, 0, rests, text, with_tuples(paper)), True)
        self.assertGreater(found, 12)

    def test_the_empty_alarm(self):
        self.same(alarm_paper(HELD, 0, [0, 1], "")[2], [])
        self.assertIs(is_alarm_paper(HELD, 0, [0, 1], "", alarm_paper(HELD, 0, [0, 1], "")), True)
        self.same(alarm_paper(HELD, 0, [0, 1], "0"), None)
        self.assertIs(is_alarm_paper(HELD, 0, [0, 1], "", sure_paper(HELD, 0, [0, 1], "") + ([""],)), False)

    def test_streams(self):
        stream, spots_told, streams = alarm_paper(COUNTS, 0, [3], "11")
        for told, wanted in [(["00", "00"], True), (["01", "11"], True), (streams[::-1], True), (["0", "00"], False),
                             (["000", "00"], False),
                             (["00"], False), (["00", "00", "00"], False), ([], False), (("00", "10"), True),
                             (["00", "000"], False)]:
            self.assertIs(is_alarm_paper(COUNTS, 0, [3], "11", (stream, spots_told, told)), wanted)
        # Which sign is left out is told by the place.
        yard = giving("01", OPENS)
        paper = alarm_paper(yard, 0, [1], "10")
        self.same(paper[2], ["", ""])
        self.assertIs(is_alarm_paper(yard, 0, [1], "10", (*paper[:2], ["0", "00"])), True)
        self.assertIs(is_alarm_paper(yard, 0, [1], "10", (*paper[:2], ["1", ""])), False)
        self.assertIs(is_alarm_paper(yard, 0, [1], "10", (*paper[:2], ["0" * 1500, ""])), True)
        # These two signs each stand in one half of the flow.
        halves = Yard([Station(1, 1, [("1", [(("0",), 1, 1), (("1",), 2, 1)]), ("1", [(("0",), 1, 1), (("0",), 3, 1)]),
                                      ("1", [(("1",), 2, 1), (("1",), 3, 1)]),
                                      ("1", [(("0",), 3, 1), (("1",), 3, 1)])])], [])
        self.same(alarms(halves, 0, [3]), ["01", "10"])
        told = alarm_paper(halves, 0, [3], "01")
        self.same(told[2], ["1", "0"])
        self.assertIs(is_alarm_paper(halves, 0, [3], "01", (*told[:2], ["0", "1"])), False)

    def test_any_value(self):
        paper = alarm_paper(HELD, 0, [1], "1")
        for value in few(wrong_kinds(paper),
                         150) + odd_values() + [[], (), "", 0, paper[:2], list(paper), paper + ([],),
                                                (*paper[:2], None), (*paper[:2], [None]), (*paper[:2], [0]),
                                                (*paper[:2], ["2"]), (*paper[:2], "")]:
            self.assertIs(is_alarm_paper(HELD, 0, [1], "1", value), False)
        self.assertIs(is_alarm_paper(value=paper, text="1", rests=(1,), outlet=0, yard=HELD), True)
        for at in range(len(paper[1])):
            self.assertIs(is_alarm_paper(HELD, 0, [1], "1", (paper[0], paper[1][:at] + paper[1][at + 1:], paper[2])),
                          False)
        self.assertIs(is_alarm_paper(HELD, 0, [1], "1", ("0", *paper[1:])), False)


class Errors(Cases):
    FOR_TEXTS = [is_sure, unsure_stream, sure_paper, alarm_paper]
    JUDGES = [is_unsure, is_sure_paper, is_alarm_paper]

    def test_parameters(self):
        for call in self.FOR_TEXTS + [lambda *told: judge(*told, None) for judge in self.JUDGES]:
            self.fails_on(errors.InvalidExit, no_counts() + [1], lambda value: call(COPIES, value, None, None))
            self.fails_on(errors.InvalidRests, NO_RESTS, lambda value: call(counting(61), 0, value, None))
            self.fails_on(errors.InvalidText, no_texts(), lambda value: call(counting(61), 0, [], value))
        for judge in self.JUDGES:
            self.fails_on(errors.InvalidRests, few(NO_RESTS, 8), lambda value: judge(COPIES, 0, value, "", None))
        self.fails_on(errors.InvalidExit, no_counts() + [1], lambda value: alarms(COPIES, value, None))
        self.fails_on(errors.InvalidRests, NO_RESTS, lambda value: alarms(counting(61), 0, value))
        self.fails_on(errors.InvalidExit, no_counts() + [1], lambda value: rings_at(COPIES, value, None, None))
        self.fails_on(errors.InvalidRests, NO_RESTS, lambda value: rings_at(counting(61), 0, value, None))
        self.fails_on(errors.InvalidStream, no_texts() + ["0" * 1001],
                      lambda value: rings_at(counting(61), 0, [0], value))
        self.fails(errors.InvalidRests, {"value": [0, 0]}, is_sure, text=None, rests=[0, 0], outlet=0, yard=COPIES)

    def test_looking_through_then_rests_then_spots(self):
        calls = [lambda yard, call=call: call(yard, 0, [0], "0" * 9) for call in self.FOR_TEXTS]
        calls += [lambda yard, call=call, value=value: call(yard, 0, [0], "0", value) for call in self.JUDGES
                  for value in (None, "0", ("0", []))]
        calls += [lambda yard: alarms(yard, 0, [0]), lambda yard: rings_at(yard, 0, [0], "0")]
        for call in calls:
            fails_looking(self, call)
            self.fails(errors.TooMany, {"what": "rests", "limit": 24}, call, counting(25))
            self.fails(errors.TooMany, {"what": "spots", "limit": 400}, call, spots(5))
        for call in calls[4:]:
            call(counting(24))
            call(spots(4))

    def test_nothing_is_changed(self):
        rests = [1]
        paper = alarm_paper(HELD, 0, rests, "1")
        before = repr(paper)
        self.assertIs(is_alarm_paper(HELD, 0, rests, "1", paper), True)
        self.same([repr(paper), rests], [before, [1]])
        paper[1].clear()
        paper[2].clear()
        self.assertEqual(repr(alarm_paper(HELD, 0, rests, "1")), before)
        found = alarms(HELD, 0, rests)
        found.clear()
        self.same([alarms(HELD, 0, rests), rests, rings_at(HELD, 0, rests, "1")], [["1"], [1], 1])
        self.same(first_stream(HOLDS, 0, "0"), "00")


if __name__ == "__main__":
    unittest.main()

"""[71], [72]: parts, what is heard, spots, views and rests behind a text."""

import unittest

from flowyard import errors
from flowyard.taps import can_be_heard, first_stream, heard_of, is_part, rests_behind, view
from flowyard.yards import Station, Yard, joined
from helper import OVERVIEW, PASS, SPLIT, TWICE, Cases, Dice, no_counts, no_texts
from slow_rests import all_texts, slow_flows
from slow_taps import Listening, is_part_of
from some_held import some_held
from some_looked import fails_looking
from some_taps import HELD, HUNDRED, giving, spots, zeros
from some_yards import COPIES, EATING, FORK, HOLDS, LATE, ONES, counting, doubling
from test_watch import TWO_EXITS


class Parts(Cases):
    def test_some(self):
        for text, whole, wanted in [("", "", True), ("", "0", True), ("0", "", False), ("0", "0", True),
                                    ("1", "0", False),
                                    ("01", "001", True), ("01", "10", False), ("11", "101", True), ("11", "1", False),
                                    ("0110", "010110", True), ("0110", "01001", False), ("0110", "01010", True),
                                    ("000", "00", False), ("10", "0110", True)]:
            self.assertIs(is_part(text, whole), wanted)
            self.assertIs(is_part(whole=whole, text=text), wanted)

    def test_all_short_ones(self):
        for text in all_texts(4):
            for whole in all_texts(5):
                self.assertIs(is_part(text, whole), is_part_of(text, whole))

    def test_long_ones(self):
        self.assertIs(is_part("01" * 500, "0011" * 500), True)
        self.assertIs(is_part("01" * 501, "0011" * 500), False)
        self.assertIs(is_part("0" * 2000, "0" * 2000), True)

    def test_errors(self):
        self.fails_on(errors.InvalidText, no_texts(), lambda value: is_part(value, None))
        self.fails_on(errors.InvalidWhole, no_texts(), lambda value: is_part("", value))
        self.fails(errors.InvalidText, {"value": 0}, is_part, whole=0, text=0)
        self.fails(errors.InvalidWhole, {"value": ["0"]}, is_part, "0", ["0"])


class Heard(Cases):
    def test_the_documents_yard(self):
        self.same([can_be_heard(HELD, 0, "011"), first_stream(HELD, 0, "011"), view(HELD, 0, "1")],
                  [True, "010", [(1, ""), (1, "1")]])

    def test_heard_of(self):
        for stream in all_texts(4):
            for text in all_texts(4):
                self.assertIs(heard_of(HELD, 0, stream, text), is_part_of(text, slow_flows(HELD, stream)[0]))
        self.assertIs(heard_of(text="0", stream="01", outlet=0, yard=TWO_EXITS), True)
        self.assertIs(heard_of(TWO_EXITS, 0, "01", "1"), False)
        self.assertIs(heard_of(TWO_EXITS, 1, "01", "1"), True)

    def test_heard_of_any_yard(self):
        # Neither is it held, nor does it have few rests, spots or signs.
        self.assertIs(heard_of(OVERVIEW, 0, "0" * 1000, "0" * 500), True)
        self.assertIs(heard_of(OVERVIEW, 0, "0" * 1000, "0" * 501), False)
        self.assertIs(heard_of(counting(61), 0, "0" * 1000, "1"), False)
        self.assertIs(heard_of(doubling(5), 0, "01", "0" * 32 + "1" * 32), True)
        self.fails(errors.TooMany, {"what": "beats", "limit": 20000}, heard_of, doubling(5), 0, "0" * 1000, "0")
        self.assertIs(heard_of(doubling(4), 0, "0" * 645, "0"), True)

    def test_can_be_heard(self):
        for yard, yes, no in [(COPIES, ["", "0", "1", "0110"], []), (EATING, [""], ["0", "1"]),
                              (ONES, ["", "111"], ["0", "101"]),
                              (HELD, ["", "0011", "000", "1"], ["10", "0110", "010"]),
                              (giving("010"), ["010", "00", "10"], ["11", "0100"])]:
            for text in yes:
                self.same([can_be_heard(yard, 0, text), view(yard, 0, text) == []], [True, False])
            for text in no:
                self.same([can_be_heard(yard, 0, text), first_stream(yard, 0, text)], [False, None])
                self.same([view(yard, 0, text), rests_behind(yard, 0, text)], [[], []])

    def test_texts_of_many_signs(self):
        self.same(first_stream(HELD, 0, "0" * 999 + "1" * 1001), "0" * 999 + "1" + "0" * 1000)
        self.same(first_stream(HOLDS, 0, "01" * 1000), "01" * 1000)
        self.same(len(view(HOLDS, 0, "01" * 1000)), 9)
        self.same(can_be_heard(HELD, 0, "01" * 1000), False)
        self.same([can_be_heard(zeros(199), 0, "0" * 199), can_be_heard(zeros(199), 0, "0" * 200)], [True, False])


class Views(Cases):
    def test_all_ends_of_what_was_added(self):
        twos = Yard([TWICE], [])
        self.same(view(twos, 0, ""), [(0, ""), (0, "0"), (0, "00"), (0, "1"), (0, "11")])
        self.same(view(twos, 0, "0"), view(twos, 0, ""))
        self.same(view(giving("01"), 0, ""), [(0, ""), (0, "01"), (0, "1")])
        self.same(view(giving("01"), 0, "0"), [(0, ""), (0, "1")])
        self.same(view(giving("01"), 0, "1"), [(0, "")])
        self.same(view(giving("01"), 0, "10"), [])
        self.same([view(EATING, 0, ""), view(COPIES, 0, "")], [[(0, "")], [(0, ""), (0, "0"), (0, "1")]])

    def test_the_text_is_heard_of_the_flow_without_what_is_left(self):
        self.same(view(HOLDS, 0, ""), [(0, ""), (0, "0"), (0, "00"), (0, "01"), (0, "1"), (0, "10"), (0, "11"),
                                       (1, ""), (2, "")])
        # It begins again at rest 0 only when two signs were given.
        late = Yard([Station(1, 1, [("1", [(("01",), 1, 1)] * 2), ("1", [(("",), 1, 1)] * 2)])], [])
        self.same([view(late, 0, text) for text in ("", "0", "1", "01")],
                  [[(0, ""), (1, ""), (1, "01"), (1, "1")], [(1, ""), (1, "1")], [(1, "")], [(1, "")]])
        self.same([rests_behind(late, 0, text) for text in ("", "0", "00")], [[0, 1], [1], []])

    def test_by_the_exit(self):
        self.same(view(TWO_EXITS, 0, "0"), [(0, ""), (1, ""), (1, "0"), (1, "1")])
        self.same(view(text="0", outlet=1, yard=TWO_EXITS), [(0, ""), (0, "0"), (0, "1"), (1, "")])
        self.same(rests_behind(text="", outlet=1, yard=TWO_EXITS), [0, 1])
        self.same([first_stream(TWO_EXITS, 0, "1"), first_stream(text="1", outlet=1, yard=TWO_EXITS)], ["1", "01"])

    def test_many_by_all_short_streams_and_all_ends(self):
        dice = Dice(721)
        full = 0
        for _ in range(70):
            yard = some_held(dice)
            if dice.below(3) == 0:
                yard = joined(yard, 0, dice.one_of([Yard([TWICE], []), giving("10", PASS), LATE]))
            slow = Listening(yard, 0, 7)
            for text in [dice.text(3) for _ in range(4)] + [""]:
                found = view(yard, 0, text)
                told = slow.view(text)
                self.assertLessEqual(set(told), set(found))
                self.same(rests_behind(yard, 0, text), sorted({rest for rest, _ in found}))
                self.same(can_be_heard(yard, 0, text), found != [])
                stream = slow.first_stream(text)
                if stream is not None:
                    self.same(first_stream(yard, 0, text), stream)
                if len(slow.steps.rests) * (len(text) + 1) <= 8:
                    # So short streams lead wherever any do.
                    self.same(found, told)
                    self.same([first_stream(yard, 0, text), found != []], [stream, stream is not None])
                    full += text != ""
        self.assertGreater(full, 70)

    def test_views_behind_a_sign_more_are_within(self):
        dice = Dice(722)
        for _ in range(30):
            yard = some_held(dice)
            for text in all_texts(3):
                for sign in "01":
                    self.assertLessEqual(set(view(yard, 0, text + sign)), set(view(yard, 0, text)))
                    self.assertLessEqual(set(view(yard, 0, sign + text)), set(view(yard, 0, text)))


class Errors(Cases):
    CALLS = [can_be_heard, first_stream, view, rests_behind]

    def test_parameters(self):
        for call in self.CALLS:
            self.fails_on(errors.InvalidExit, no_counts() + [1], lambda value: call(COPIES, value, None))
            self.fails_on(errors.InvalidText, no_texts(), lambda value: call(counting(61), 0, value))
            self.fails(errors.InvalidText, {"value": "2"}, call, text="2", outlet=0, yard=COPIES)
        self.fails_on(errors.InvalidExit, no_counts() + [1], lambda value: heard_of(COPIES, value, None, None))
        self.fails_on(errors.InvalidStream, no_texts() + ["0" * 1001], lambda value: heard_of(COPIES, 0, value, None))
        self.fails_on(errors.InvalidText, no_texts(), lambda value: heard_of(doubling(5), 0, "0" * 1000, value))

    def test_looking_through(self):
        for call in self.CALLS:
            fails_looking(self, lambda yard: call(yard, 0, ""))

    def test_rests_then_spots(self):
        for call in self.CALLS:
            self.fails(errors.TooMany, {"what": "rests", "limit": 24}, call, counting(25), 0, "0")
            self.fails(errors.TooMany, {"what": "rests", "limit": 24}, call, counting(60), 0, "")
            self.fails(errors.TooMany, {"what": "spots", "limit": 400}, call, spots(5), 0, "0")
            call(counting(24), 0, "0")
            call(spots(4), 0, "0")
        self.same([len(view(spots(4), 0, "")), len(view(spots(0), 0, ""))], [400, 396])

    def test_spots_are_those_of_the_exit(self):
        # At the other exit nothing is ever given.
        silent = spots(5)
        self.same([len(view(silent, 1, "")), len(silent.exits)], [12, 2])
        both = joined(counting(30), 0, Yard([SPLIT], []))
        self.fails(errors.TooMany, {"what": "rests", "limit": 24}, view, both, 1, "")

    def test_returned_values_are_new(self):
        found = view(FORK, 0, "0")
        before = repr(found)
        found.clear()
        self.assertEqual(repr(view(FORK, 0, "0")), before)
        rests_behind(FORK, 0, "0").clear()
        self.assertNotEqual(rests_behind(FORK, 0, "0"), [])
        self.same(can_be_heard(giving(HUNDRED), 0, HUNDRED), True)


if __name__ == "__main__":
    unittest.main()

"""[95]: commands and their answers, several of them at once, and what can be taken back."""

import unittest

from flowyard import errors
from flowyard.desk import Desk
from flowyard.yards import Yard
from helper import (COPY, HALF, OVERVIEW, PASS, ROW, SPLIT, TURN, UNLIKE, Dice, odd_values, some_sizes, some_station,
                    some_yard)
from slow_desk import PlainDesk
from some_yards import COPIES, SLOW, doubling
from test_desk import NAMES, DeskCases, ready, some_command

BOTH = Yard([COPY, UNLIKE], [(0, 0, 1, 0), (0, 1, 1, 1)])
WORDS = ("finish", "undo", "flows", "left", "can", "over")
NO_COMMANDS = odd_values() + [
    "", " ", "Come 0", "come", "come ", "come 0 1", "come 2", "come  0", " come 0", "come 0 ", "come 0\n", "come\n0",
    "come --", "come 0-", "comes 0", "COME 0",
    "beat", "beat -", "beat x", "beat 00", "beat 01", "beat +1", "beat -1", "beat 0 0", "beat 0.", "beat  0",
    "beat one", "beat 0x0",
    "finish 0", "finish ", " finish", "finish\n", "finished", "undo 1", "undo ", "flows 0", "left ", "can 0", "over 1",
    "overs", "can\n", "-", "0", "do", "log", "times",
    "spare 0 a 0", "beat 0 a 0", "chance 0 0 0 0 0 1", "swap 0 0 0 0 0 1", "come 0 0 0 0 0 1", "change 0 a 0", "swap",
    "swap 0 a", "swap 0 a 0 0", "swap a 0 0", "swap 0 A 0", "swap 0 abcdefghi 0", "swap 0 a1 0", "swap 0 - 0",
    "swap 0 a 00", "swap 0 a -", "swap 00 a 0", "swap - a 0",
    "swap 0  0", "swap 0 a x", "change", "change 0 0 0 0 0", "change 0 0 0 0 0 1 1 1 1", "change 0 0 0 - - - 0 1",
    "change 00 0 0 0 0 1", "change 0 00 0 0 0 1",
    "change 0 0 0 0 00 1", "change 0 0 0 0 0 01", "change 0 0 2 0 0 1", "change 0 0 0 2 0 1", "change 0 0 0 0 - 1",
    "change 0 0 0 0 0 -", "change - 0 0 0 0 1", "change 0 0 0  0 1",
    "change 0 0  0 0 1", "change 0 0 0 0 0 1 ", "change 0 0 0 x 0 0 1", ["come", "0"], ("finish",), 0, [], b"finish"]


class Answers(DeskCases):
    def test_the_table(self):
        desk = Desk(Yard([SPLIT, HALF], [(0, 1, 1, 0)]))
        desk["turn"], desk["split"] = TURN, SPLIT
        for command, answer in [("flows", "- -"), ("left", "-"), ("can", "none"), ("over", "0"), ("finish", "0"),
                                ("come 0110", "done"), ("left", "0110"), ("can", "0"),
                                ("beat 0", "done"), ("left", "110"), ("flows", "0 -"), ("over", "1"),
                                ("beat 0", "done"), ("can", "0 1"), ("beat 1", "done"),
                                ("flows", "0 -"), ("over", "3"), ("change 0 0 1 - 01 1 5", "done"), ("beat 0", "done"),
                                ("left", "0"), ("flows", "0 -"), ("over", "7"),
                                ("swap 1 turn 0", "done"), ("can", "0 1"), ("finish", "4"), ("flows", "0 101"),
                                ("left", "-"), ("can", "none"), ("undo", "finish"),
                                ("undo", "swap 1 turn 0"), ("undo", "beat 0"), ("undo", "change 0 0 1 - 01 1 5"),
                                ("undo", "beat 1"), ("flows", "0 -"), ("over", "2"),
                                ("come -", "done"), ("undo", "come -"), ("undo", "beat 0"), ("undo", "beat 0"),
                                ("undo", "come 0110"), ("undo", "finish"), ("left", "-")]:
            with self.subTest(command=command):
                self.same(desk.do(command), answer)
        self.same([len(desk), desk.state], [0, ((0, 0), ("",), "", ("", ""))])

    def test_calls_do_the_same(self):
        desk = ready(ROW, "01")
        self.same([desk("beat 0"), desk(command="can"), desk.do(command="finish"), desk("undo"), desk("flows")],
                  ["done", "0 1", "3", "finish", "-"])
        self.fails(errors.InvalidCommand, {"value": "x"}, desk, "x")
        self.fails(errors.InvalidCommand, {"value": None}, desk, command=None)
        self.fails(errors.CannotBeDone, {"value": 1}, ready(ROW, "0"), "beat 1")

    def test_rows_of_two_texts(self):
        desk = ready(BOTH, "01")
        for command, row in [("change 0 0 0 - 11 0 9", (("", "11"), 0, 9)),
                             ("change 0 0 0 00 - 0 1", (("00", ""), 0, 1))]:
            self.same(desk.do(command), "done")
            self.same(desk.stations[0].row(0, "0"), row)
        self.same(desk.do("change 1 0 10 - 0 3"), "done")
        self.same([desk.stations[1].row(0, "10"), desk.log()[1:]],
                  [(("",), 0, 3), ["change 0 0 0 - 11 0 9", "change 0 0 0 00 - 0 1", "change 1 0 10 - 0 3"]])

    def test_what_methods_do_is_told_as_commands(self):
        desk = Desk(BOTH)
        desk["abcdefgh"] = COPY
        desk.come("")
        desk.come("01")
        desk.beat(0)
        desk.finish()
        desk.swap(0, "abcdefgh", 0)
        desk.change(0, 0, "1", (("", "01"), 0, 9))
        desk += "1"
        told = ["come -", "come 01", "beat 0", "finish", "swap 0 abcdefgh 0", "change 0 0 1 - 01 0 9", "come 1"]
        self.same(desk.log(), told)
        again = Desk(BOTH)
        again["abcdefgh"] = COPY
        self.same(again.do_all(*told), ["done", "done", "done", "3", "done", "done", "done"])
        self.same(self.whole(again), self.whole(desk))
        self.same([desk.undo() for _ in told], told[::-1])

    def test_many_by_a_plain_second_desk(self):
        dice = Dice(951)
        for _ in range(30):
            yard = some_yard(dice, 3)
            sizes = some_sizes(dice, yard) if dice.below(2) else None
            desk, plain = Desk(yard, sizes, 1), PlainDesk(yard, sizes, 1)
            for name in NAMES:
                there = dice.one_of(yard.stations)
                desk[name] = plain.spares[name] = some_station(dice, there.ins, there.outs)
            commands, answers = [], []
            for _ in range(10):
                commands.append(some_command(dice, plain))
                answers.append(plain.do(commands[-1]))
                commands.append(dice.one_of(["flows", "left", "can", "over"]))
                answers.append(plain.do(commands[-1]))
            self.same(desk.do_all(*commands), answers)
            self.same_desks(desk, plain)


class Wrong(DeskCases):
    def test_no_commands(self):
        desk = ready(ROW, "0110")
        desk["a"] = TURN
        before = self.whole(desk)
        for value in NO_COMMANDS:
            with self.subTest(value=repr(value)):
                self.fails(errors.InvalidCommand, {"value": value}, desk.do, value)
                self.fails(errors.InvalidCommand, {"value": value}, desk, value)
        self.same(self.whole(desk), before)

    def test_then_the_errors_of_the_methods(self):
        desk = ready(ROW, "0110")
        desk["half"], desk["copy"] = HALF, COPY
        before = self.whole(desk)
        for command, error, attributes in [
                ("beat 2", errors.InvalidStation, {"value": 2}), ("beat 1", errors.CannotBeDone, {"value": 1}),
                ("beat " + "9" * 29, errors.InvalidStation, {"value": int("9" * 29)}),
                ("swap 2 half 0", errors.InvalidStation, {"value": 2}),
                ("swap 0 hal 0", errors.UnknownName, {"value": "hal"}),
                ("swap 0 copy 9", errors.InvalidNew, {"value": COPY}),
                ("swap 0 half 2", errors.InvalidImage, {"value": 2}),
                ("swap 2 no 9", errors.InvalidStation, {"value": 2}),
                ("change 2 9 - 000 9 0", errors.InvalidStation, {"value": 2}),
                ("change 0 1 - 000 9 0", errors.InvalidStanding, {"value": 1}),
                ("change 0 0 - 000 9 0", errors.InvalidText, {"value": ""}),
                ("change 0 0 00 0 0 1", errors.InvalidText, {"value": "00"}),
                ("change 0 0 0 000 0 1", errors.InvalidRow, {"value": (("000",), 0, 1)}),
                ("change 0 0 0 0 1 1", errors.InvalidRow, {"value": (("0",), 1, 1)}),
                ("change 0 0 0 0 0 0", errors.InvalidRow, {"value": (("0",), 0, 0)}),
                ("change 0 0 0 0 0 10", errors.InvalidRow, {"value": (("0",), 0, 10)}),
                ("change 0 0 0 - - 0 1", errors.InvalidRow, {"value": (("", ""), 0, 1)}),
                ("come " + "0" * 997, errors.TooMany, {"what": "signs", "limit": 1000})]:
            with self.subTest(command=command):
                self.fails(error, attributes, desk.do, command)
                self.same(self.whole(desk), before)
        self.fails(errors.NothingToUndo, {}, Desk(ROW), "undo")
        self.fails(errors.InvalidRow, {"value": (("0",), 0, 1)}, ready(BOTH, "0"), "change 0 0 0 0 0 1")

    def test_commands_of_any_length(self):
        desk = Desk(COPIES)
        self.same([desk.do("come " + "01" * 500), desk.do("left")], ["done", "01" * 500])
        self.same([desk.do("finish"), desk.do("flows")], ["1000", "01" * 500])


class Several(DeskCases):
    def test_answers(self):
        desk = Desk(ROW)
        self.same([desk.do_all(), desk.do_all("come 01"), desk.do_all("finish", "left", "flows")],
                  [[], ["done"], ["4", "-", "01"]])
        self.same(desk.do_all("undo", "undo", "come 1"), ["finish", "come 01", "done"])

    def test_none_has_an_effect_if_one_fails(self):
        desk = ready(ROW, "0110")
        desk["half"] = HALF
        desk.beat(0)
        before = self.whole(desk)
        good = ["come 1", "beat 0", "undo", "undo", "undo", "finish", "swap 0 half 0", "change 1 0 0 0 0 5", "can",
                "finish"]
        for bad, error in [("x", errors.InvalidCommand), (None, errors.InvalidCommand),
                           ("beat 7", errors.InvalidStation), ("beat 0", errors.CannotBeDone),
                           ("swap 0 no 0", errors.UnknownName),
                           ("come " + "0" * 999, errors.TooMany), ("swap 0 half 7", errors.InvalidImage)]:
            for many in (0, 4, len(good)):
                if bad == "beat 0" and many < len(good):
                    continue
                with self.assertRaises(errors.CommandFailed) as caught:
                    desk.do_all(*good[:many], bad, "come 0", "finish")
                self.same(caught.exception.position, many)
                self.assertIs(caught.exception.__cause__.__class__, error)
                self.same(self.whole(desk), before)
        with self.assertRaises(errors.CommandFailed) as caught:
            desk.do_all("undo", "undo", "undo")
        self.same([caught.exception.position, caught.exception.__cause__.__class__], [2, errors.NothingToUndo])
        self.same(self.whole(desk), before)
        self.same(desk.do_all(*good), ["done", "done", "beat 0", "come 1", "beat 0", "8", "done", "done", "none", "0"])

    def test_the_cause_has_its_value(self):
        with self.assertRaises(errors.CommandFailed) as caught:
            Desk(COPIES).do_all("come 0", "beat 3")
        self.same([caught.exception.position, caught.exception.__cause__.value], [1, 3])
        loud = ready(doubling(4), "0" * 646)
        with self.assertRaises(errors.CommandFailed) as caught:
            loud.do_all("beat 0", "finish")
        self.same([caught.exception.position, caught.exception.__cause__.what, len(loud.run)], [1, "beats", 0])

    def test_commands_behind_a_failed_one_are_not_done(self):
        desk = Desk(SLOW)
        self.fails(errors.CommandFailed, {"position": 0}, desk.do_all, "beat 0", "come 0", "finish")
        self.same([len(desk), desk.came], [0, ""])
        self.same([Desk(OVERVIEW).do_all("can"), Desk(Yard([PASS], [])).do("left")], [["none"], "-"])


if __name__ == "__main__":
    unittest.main()

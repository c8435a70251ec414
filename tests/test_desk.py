"""[93], [94]: desks, spares, names, what comes, beats, swaps and changes, moments of beats, trials."""

import unittest

from flowyard import errors
from flowyard.clock import times
from flowyard.desk import Desk, Trial, told_again, tried
from flowyard.runs import end, full_run
from flowyard.swaps import swapped_end
from flowyard.yards import Station, Yard
from helper import (COPY, HALF, OVERVIEW, PASS, ROW, TURN, TWICE, UNLIKE, Cases, Dice, no_counts, no_texts, odd_values,
                    slow_can,
                    some_sizes, some_station, some_yard)
from slow_desk import PlainDesk
from slow_swaps import beats_of_station
from slow_texts import told as written_text
from some_yards import COPIES, HELD_BY_TWO, SLOW, TWO, doubling, slowly
from spoiling import few, no_sizes

SLOW_TURN = Station(1, 1, [("1", [(("1",), 0, 1), (("0",), 0, 2)])])
DOCUMENT = Yard([SLOW_TURN, SLOW_TURN], [(0, 0, 1, 0)])
NAMES = ["a", "z", "abcdefgh", "xyz", "zz"]
NO_NAMES = [value for value in odd_values()
            if value != "x"] + ["", "A", "abcdefghi", "a1", "a b", "a-", "-", "0", " a", "a ", "aB", 0, [], ("a",),
                                ["a"], "a\n"]


def ready(yard=DOCUMENT, stream="01", sizes=None, apart=0):
    desk = Desk(yard, sizes, apart)
    desk.come(stream)
    return desk


class DeskCases(Cases):
    def same_desks(self, desk, plain):
        """All that the desk tells is what the plain one has."""
        now = plain.now
        self.assertEqual(desk.stations, now["stations"])
        self.same([desk.state, desk.came, desk.run, desk.times()],
                  [now["state"], now["came"], now["run"], sorted(now["times"])])
        self.same([desk.log(), len(desk)], [[command for command, _ in plain.past], len(plain.past)])
        for command in ("flows", "left", "can", "over"):
            self.same(desk.do(command), plain.do(command))

    def whole(self, desk):
        """All that can be told of a desk, its spares by their names."""
        return (repr(desk.stations), desk.state, desk.came, desk.run, desk.times(), desk.log(), len(desk),
                [repr(desk[name]) for name in NAMES if name in desk], [name for name in NAMES if name in desk])


def some_command(dice, desk):
    """Some command that can be done at the plain desk."""
    while True:
        word = dice.one_of(["come", "come", "beat", "beat", "beat", "beat", "finish", "swap", "change", "change",
                            "undo"])
        station = dice.below(len(desk.now["stations"]))
        there = desk.now["stations"][station]
        if word == "come":
            return f"come {written_text(dice.text(3))}"
        if word == "beat" and desk.can():
            return f"beat {dice.one_of(desk.can())}"
        if word == "finish" and dice.below(2):
            return "finish"
        if word == "undo" and desk.past:
            return "undo"
        fits = [name for name, spare in desk.spares.items() if (spare.ins, spare.outs) == (there.ins, there.outs)]
        if word == "swap" and fits:
            name = dice.one_of(fits)
            return f"swap {station} {name} {dice.below(len(desk.spares[name]))}"
        if word == "change":
            standing = dice.below(len(there))
            signs = dice.one_of(["00", "01", "10", "11"] if there.reads(standing) == "12" else ["0", "1"])
            texts = " ".join(written_text(dice.text(2)) for _ in range(there.outs))
            return f"change {station} {standing} {signs} {texts} {dice.below(len(there))} {1 + dice.below(9)}"


def call_for(desk, command):
    """The method in the place of the command; what the command would answer."""
    words = command.split(" ")
    if words[0] == "come":
        found = desk.come(words[1].strip("-"))
    elif words[0] == "beat":
        found = desk.beat(int(words[1]))
    elif words[0] == "finish":
        return str(desk.finish())
    elif words[0] == "swap":
        found = desk.swap(int(words[1]), words[2], int(words[3]))
    elif words[0] == "change":
        row = (tuple(text.strip("-") for text in words[4:-2]), int(words[-2]), int(words[-1]))
        found = desk.change(int(words[1]), int(words[2]), words[3].strip("-"), row)
    else:
        return desk.undo()
    return "done" if found is None else found


class Desks(DeskCases):
    def test_the_documents_desk(self):
        desk = Desk(DOCUMENT, apart=1)
        self.same(desk.do_all("come 01", "beat 0", "can", "finish", "flows", "over"),
                  ["done", "done", "0 1", "3", "01", "4"])
        self.same([tried(desk, lambda held: held.finish()), desk.undo(), desk.state, desk.times(),
                   told_again(desk, DOCUMENT).log()],
                  [0, "finish", ((0, 0), ("1",), "1", ("",)), [(0, 1, (0, 0))], ["come 01", "beat 0"]])

    def test_at_first(self):
        yard = Yard([COPY, HALF, UNLIKE], [(0, 0, 1, 0), (0, 1, 2, 1), (1, 0, 2, 0)], ((0, 1, 0), ("01", "1", "")))
        desk = Desk(yard)
        self.same([desk.sizes, desk.apart, desk.came, desk.run, desk.times(), desk.log(), len(desk)],
                  [None, 0, "", [], [], [], 0])
        self.same(desk.state, ((0, 1, 0), ("01", "1", ""), "", ("",)))
        self.assertEqual(desk.stations, [COPY, HALF, UNLIKE])
        self.assertEqual(desk.as_yard(), yard)
        desk = Desk(apart=7, sizes=(1, 2, 3), yard=yard)
        self.same([desk.sizes, desk.apart], [(1, 2, 3), 7])

    def test_many_by_a_plain_second_one(self):
        dice = Dice(931)
        done = {}
        for number in range(60):
            yard = some_yard(dice, 3)
            sizes = some_sizes(dice, yard) if dice.below(2) else None
            apart = dice.below(4)
            desk, plain = Desk(yard, sizes, apart), PlainDesk(yard, sizes, apart)
            for name in NAMES:
                there = dice.one_of(yard.stations)
                desk[name] = plain.spares[name] = some_station(dice, there.ins, there.outs)
            for step in range(18):
                command = some_command(dice, plain)
                found = call_for(desk, command) if step % 2 else desk.do(command)
                self.same(found, plain.do(command))
                self.same_desks(desk, plain)
                done[command.split(" ")[0]] = done.get(command.split(" ")[0], 0) + 1
            while plain.past:
                self.same(desk.undo(), plain.do("undo"))
                self.same_desks(desk, plain)
            self.assertEqual(desk.as_yard(), yard)
        self.assertGreater(min(done.values()), 20)
        self.same(len(done), 6)

    def test_moments_are_those_of_the_clock_where_nothing_was_changed(self):
        dice = Dice(941)
        for _ in range(60):
            yard = some_yard(dice, 3)
            sizes = some_sizes(dice, yard) if dice.below(2) else None
            apart, stream = dice.below(4), dice.text(5)
            desk = Desk(yard, sizes, apart)
            cut = dice.below(len(stream) + 1)
            for text in (stream[:cut], stream[cut:]):
                desk.come(text)
                for _ in range(dice.below(4)):
                    can = slow_can(yard, desk.state, sizes)
                    if can:
                        desk.beat(dice.one_of(can))
            ahead = len(desk.run)
            self.same(desk.finish(), len(full_run(yard, stream, sizes)) - ahead)
            self.same([desk.times(), desk.state], [times(yard, stream, apart, sizes), end(yard, stream, sizes)])

    def test_signs_come_when_they_come_whenever_they_are_told(self):
        for portions in (["0110"], ["0", "110"], ["01", "", "1", "0"]):
            for soon in (False, True):
                desk = Desk(SLOW, apart=5)
                for text in portions:
                    desk.come(text)
                    if soon:
                        desk.finish()
                desk.finish()
                self.same([desk.times(), desk.came], [[(0, 1, (0, 0)), (5, 8, (0, 1)), (10, 13, (0, 2)),
                                                       (15, 16, (0, 3))], "0110"])

    def test_moments_behind_swaps_and_changes(self):
        slow = Yard([slowly(2)], [])
        desk = ready(slow, "0000", apart=1)
        desk["nine"] = slowly(9)
        desk.beat(0)
        desk.swap(0, "nine", 0)
        desk.beat(0)
        desk.change(0, 0, "0", (("1",), 0, 1))
        desk.beat(0)
        self.same([desk.times(), desk.state], [[(0, 2, (0, 0)), (2, 11, (0, 1)), (11, 12, (0, 2))],
                                               ((0,), (), "0", ("001",))])
        self.same([desk.run, desk("over")], [[0, 0, 0], "12"])
        # The spare is as it was.
        self.assertEqual(desk["nine"], slowly(9))

    def test_places_of_pipes(self):
        desk = ready(TWO, "11", (2,))
        self.same([desk.finish(), desk.times()], [6, times(TWO, "11", 0, (2,))])
        held = ready(HELD_BY_TWO, "00", (1, 1, 3))
        self.same([held.finish(), held("can"), held("left"), held("flows")], [2, "none", "0", "-"])
        full = Desk(ROW.begun(((0, 0), ("101",))), (1,))
        full.come("0")
        self.same([full.do("can"), full.finish(), full.times()],
                  ["1", 5, times(ROW.begun(((0, 0), ("101",))), "0", 0, (1,))])

    def test_swaps_have_the_ends_of_swaps(self):
        dice = Dice(932)
        for _ in range(40):
            yard = some_yard(dice, 3)
            station = dice.below(len(yard))
            there = yard.stations[station]
            new = some_station(dice, there.ins, there.outs)
            stream = dice.text(4)
            number = dice.below(len(beats_of_station(yard, station, stream)))
            image = dice.below(len(new))
            desk = ready(yard, stream)
            desk["new"] = new
            while desk.run.count(station) < number:
                desk.beat(dice.one_of(slow_can(yard, desk.state, None)))
            desk.swap(station, "new", image)
            desk.finish()
            self.same(desk.state, swapped_end(yard, station, new, stream, number, image))

    def test_as_yard(self):
        desk = ready(ROW, "0110")
        desk.do_all("beat 0", "beat 0", "beat 1")
        self.assertEqual(desk.as_yard(), ROW.begun(((0, 0), ("0",))))
        desk["half"] = HALF
        desk.swap(1, "half", 1)
        self.assertEqual(desk.as_yard(), Yard([TURN, HALF], ROW.pipes, ((0, 1), ("0",))))
        desk.do_all("beat 0", "beat 0")
        self.assertEqual(desk.as_yard().begin, ((0, 1), ("001",)))
        # Four signs are in the pipe.
        desk.do_all("come 0", "beat 0")
        self.fails(errors.InvalidBegin, {"value": ((0, 1), ("0011",))}, desk.as_yard)
        self.same([len(desk), desk.state[1]], [9, ("0011",)])
        desk.beat(1)
        self.assertEqual(desk.as_yard().begin, ((0, 0), ("011",)))

    def test_properties_give_new_lists(self):
        desk = ready(ROW, "01")
        desk.finish()
        before = self.whole(desk)
        for found in (desk.stations, desk.run, desk.times(), desk.log()):
            found.clear()
        self.same(self.whole(desk), before)
        again = Desk(ROW)
        self.assertEqual(again.as_yard(), ROW)
        for name in ("sizes", "apart", "stations", "state", "came", "run"):
            self.assertIsInstance(vars(Desk)[name], property)
            with self.assertRaises(AttributeError):
                setattr(desk, name, None)


class Spares(DeskCases):
    def test_names(self):
        desk = Desk(DOCUMENT)
        for name, spare in zip(NAMES, [PASS, COPY, UNLIKE, HALF, TURN]):
            self.assertIs(name in desk, False)
            desk[name] = spare
            self.assertIs(name in desk, True)
            self.assertEqual(desk[name], spare)
        for value in NO_NAMES + ["b", "abcdefg", "xy"]:
            self.assertIs(value in desk, False)
        self.same([len(desk), desk.log()], [0, []])

    def test_errors_of_names(self):
        desk = Desk(DOCUMENT)
        desk["half"] = HALF
        for value in NO_NAMES:
            self.fails(errors.InvalidName, {"value": value}, desk.__setitem__, value, None)
            self.fails(errors.UnknownName, {"value": value}, desk.__getitem__, value)
        for value in ("pass", "hal", "halff"):
            self.fails(errors.UnknownName, {"value": value}, desk.__getitem__, value)
        for value in (HALF, PASS, None, "half"):
            self.fails(errors.TakenName, {"value": "half"}, desk.__setitem__, "half", value)
        for value in [value for value in odd_values() if value != PASS] + ["half", [PASS], 0, (PASS,), DOCUMENT]:
            self.fails(errors.InvalidEntry, {"value": value}, desk.__setitem__, "other", value)
        self.same([repr(desk["half"]), "other" in desk], [repr(HALF), False])

    def test_they_are_not_taken_back(self):
        desk = ready()
        desk["half"] = HALF
        desk.swap(0, "half", 1)
        desk.undo()
        desk.undo()
        self.same(["half" in desk, len(desk)], [True, 0])
        self.assertEqual(desk["half"], HALF)
        self.fails(errors.CommandFailed, {"position": 1}, desk.do_all, "come 0", "x")
        self.assertIs("half" in desk, True)

    def test_desks_are_not_iterated_over(self):
        with self.assertRaises(TypeError):
            iter(Desk(DOCUMENT))


class Methods(DeskCases):
    def test_sizes_and_apart(self):
        for value in no_sizes(ROW):
            if value is not None:
                self.fails(errors.InvalidSizes, {"value": value}, Desk, ROW, value)
                self.fails(errors.InvalidSizes, {"value": value}, Desk, apart=-1, sizes=value, yard=ROW)
        self.fails_on(errors.InvalidNumber, no_counts(), lambda value: Desk(ROW, (1,), value))
        self.same([Desk(ROW, None).sizes, Desk(ROW, (3,), 10 ** 29).apart], [None, 10 ** 29])

    def test_come(self):
        desk = Desk(COPIES)
        self.same(desk.come(""), None)
        self.same([desk.come(text="01"), desk.log(), desk.came], [None, ["come -", "come 01"], "01"])
        self.fails_on(errors.InvalidText, no_texts(), desk.come)
        desk += "1"
        self.assertIsInstance(desk, Desk)
        self.same([desk.came, desk.log(), len(desk)], ["011", ["come -", "come 01", "come 1"], 3])

        def add(value):
            held = Desk(COPIES)
            held += value

        self.fails_on(errors.InvalidText, no_texts(), add)

    def test_a_thousand_signs_and_one_more(self):
        for many in (0, 1, 999, 1000):
            desk = ready(COPIES, "0" * many)
            desk.finish()
            desk.come("1" * (1000 - many))
            desk.come("")
            self.same(len(desk.came), 1000)
            before = self.whole(desk)
            self.fails(errors.TooMany, {"what": "signs", "limit": 1000}, desk.come, "0")
            self.fails(errors.TooMany, {"what": "signs", "limit": 1000}, desk.come, "0" * 2000)
            with self.assertRaises(errors.TooMany):
                desk += "1"
            self.same(self.whole(desk), before)
        self.fails(errors.TooMany, {"what": "signs", "limit": 1000}, Desk(COPIES).come, "0" * 1001)

    def test_beat(self):
        desk = ready(ROW, "0")
        self.same([desk.beat(station=0), desk.beat(1), desk.log()], [None, None, ["come 0", "beat 0", "beat 1"]])
        self.fails_on(errors.InvalidStation, no_counts() + [2], desk.beat)
        for station in (0, 1):
            self.fails(errors.CannotBeDone, {"value": station}, desk.beat, station)
        self.fails(errors.CannotBeDone, {"value": 1}, ready(ROW, "0").beat, 1)
        full = ready(ROW, "00", (1,))
        full.beat(0)
        self.fails(errors.CannotBeDone, {"value": 0}, full.beat, 0)
        self.same([len(full), full.do("can")], [2, "1"])

    def test_finish(self):
        desk = ready(ROW, "01")
        self.same([desk.finish(), desk.run, desk.finish(), desk.log()],
                  [4, [0, 0, 1, 1], 0, ["come 01", "finish", "finish"]])
        self.same([ready(ROW, "01", (1,)).finish(), tried(ready(ROW, "01", (1,)),
                                                          lambda desk: (desk.finish(), desk.run))],
                                                          [4, (4, [0, 1, 0, 1])])

    def test_too_many_beats(self):
        loud = doubling(4)
        desk = ready(loud, "0" * 645)
        self.same(desk.finish(), 19995)
        desk.come("0" * 355)
        self.same(desk.finish(), 31 * 355)
        desk = ready(loud, "0" * 646)
        before = self.whole(desk)
        self.fails(errors.TooMany, {"what": "beats", "limit": 20000}, desk.finish)
        self.fails(errors.TooMany, {"what": "beats", "limit": 20000}, desk.do, "finish")
        self.same(self.whole(desk), before)

    def test_swap(self):
        desk = ready(ROW, "0110")
        desk["half"], desk["copy"] = HALF, COPY
        self.same(desk.swap(image=1, name="half", station=0), None)
        self.assertEqual(desk.stations, [HALF, TURN])
        self.same([desk.state[0], desk.log()], [(1, 0), ["come 0110", "swap 0 half 1"]])
        before = self.whole(desk)
        self.fails_on(errors.InvalidStation, no_counts() + [2], lambda value: desk.swap(value, None, None))
        self.fails_on(errors.UnknownName, NO_NAMES + ["b", "hal"], lambda value: desk.swap(0, value, None))
        self.fails(errors.InvalidNew, {"value": COPY}, desk.swap, 0, "copy", None)
        self.fails_on(errors.InvalidImage, no_counts() + [2], lambda value: desk.swap(0, "half", value))
        self.same(self.whole(desk), before)

    def test_change(self):
        desk = ready(ROW, "0110")
        self.same(desk.change(row=(("11",), 0, 9), signs="1", standing=0, station=1), None)
        self.same([repr(desk.stations[1]), desk.log()[1:]],
                  ["Station(1, 1, [('1', [(('1',), 0, 1), (('11',), 0, 9)])])", ["change 1 0 1 11 0 9"]])
        before = self.whole(desk)
        row = (("0",), 0, 1)
        self.fails_on(errors.InvalidStation, no_counts() + [2], lambda value: desk.change(value, None, None, None))
        self.fails_on(errors.InvalidStanding, no_counts() + [1], lambda value: desk.change(0, value, None, None))
        self.fails_on(errors.InvalidText, no_texts() + ["", "00", "01"], lambda value: desk.change(0, 0, value, None))
        wrong = odd_values() + [(), ("0", 0, 1), [("0",), 0, 1], (["0"], 0, 1), (("000",), 0, 1), (("0", "0"), 0, 1),
                                ((), 0, 1), (("0",), 1, 1), (("0",), -1, 1), (("0",), 0, 0),
                                (("0",), 0, 10), (("0",), 0, True), (("0",), False, 1), (("2",), 0, 1), (("0",), 0),
                                (("0",), 0, 1, 1), (0, 0, 1)]
        self.fails_on(errors.InvalidRow, wrong, lambda value: desk.change(0, 0, "0", value))
        self.same(self.whole(desk), before)
        both = ready(Yard([COPY, UNLIKE], [(0, 0, 1, 0), (0, 1, 1, 1)]), "01")
        both.change(1, 0, "01", row)
        both.change(0, 0, "0", (("", "1"), 0, 3))
        self.same(both.log()[1:], ["change 1 0 01 0 0 1", "change 0 0 0 - 1 0 3"])
        self.fails(errors.InvalidText, {"value": "0"}, both.change, 1, 0, "0", row)
        self.fails(errors.InvalidRow, {"value": row}, both.change, 0, 0, "0", row)

    def test_a_change_leaves_standings_and_all_other_rows(self):
        desk = ready(Yard([HALF], []), "0110")
        desk.beat(0)
        desk.change(0, 1, "1", (("00",), 1, 2))
        self.same([desk.state, desk.stations[0].standings()[0], desk.stations[0].row(1, "0"),
                   desk.stations[0].row(1, "1")],
                  [((1,), (), "110", ("",)), HALF.standings()[0], (("0",), 0, 1), (("00",), 1, 2)])
        self.same([desk.finish(), desk("flows")], [3, "00000"])

    def test_undo(self):
        desk = ready()
        self.same([desk.undo(), len(desk), desk.came], ["come 01", 0, ""])
        for _ in range(2):
            self.fails(errors.NothingToUndo, {}, desk.undo)
            self.fails(errors.NothingToUndo, {}, desk.do, "undo")
        desk.do_all("come 01", "beat 0", "finish")
        self.same([desk.undo(), desk.log(), desk.run], ["finish", ["come 01", "beat 0"], [0]])
        desk.beat(1)
        self.same([desk.undo(), desk.undo(), desk.undo(), desk.state],
                  ["beat 1", "beat 0", "come 01", ((0, 0), ("",), "", ("",))])

    def test_what_turned_nothing_is_taken_back_too(self):
        desk = Desk(ROW)
        desk["turn"] = TURN
        desk.do_all("come -", "finish", "swap 0 turn 0", "change 0 0 0 1 0 1")
        self.same(len(desk), 4)
        self.same([desk.undo() for _ in range(4)], ["change 0 0 0 1 0 1", "swap 0 turn 0", "finish", "come -"])
        self.same(len(desk), 0)

    def test_len(self):
        desk = Desk(COPIES)
        for number, command in enumerate(["come 01", "beat 0", "flows", "can", "left", "over", "finish", "undo",
                                          "undo", "undo"]):
            desk.do(command)
            self.same(len(desk), [1, 2, 2, 2, 2, 2, 3, 2, 1, 0][number])

    def test_the_yard_that_was_passed_is_as_it_was(self):
        yard = Yard([SLOW_TURN, SLOW_TURN], [(0, 0, 1, 0)])
        desk, other = ready(yard, "01"), Desk(yard)
        desk.change(0, 0, "0", (("",), 0, 1))
        desk.finish()
        self.assertEqual(yard, DOCUMENT)
        self.assertEqual(other.stations, DOCUMENT.stations)
        self.same([other.came, len(other)], ["", 0])
        self.assertEqual(few(desk.stations, 1)[0].row(0, "0"), (("",), 0, 1))


class Trials(DeskCases):
    def told(self):
        desk = ready(ROW, "0110", apart=2)
        desk["half"] = HALF
        desk.beat(0)
        return desk

    def turn_all(self, desk):
        desk["new"] = PASS
        desk += "1"
        desk.do_all("undo", "undo", "finish", "swap 0 new 0", "change 1 0 0 11 0 3", "come 00", "finish")

    def test_all_is_as_it_was(self):
        desk = self.told()
        before = self.whole(desk)
        with Trial(desk) as held:
            self.assertIs(held, desk)
            self.turn_all(held)
            self.assertNotEqual(self.whole(desk), before)
            self.assertIs("new" in desk, True)
        self.same(self.whole(desk), before)
        self.same(["new" in desk, "half" in desk], [False, True])
        desk["new"] = TURN
        self.assertEqual(desk["new"], TURN)

    def test_an_error_goes_on(self):
        desk = self.told()
        before = self.whole(desk)
        for error in (ValueError("x"), errors.CannotBeDone(3), KeyError(1)):
            with self.assertRaises(type(error)) as caught:
                with Trial(desk):
                    self.turn_all(desk)
                    raise error
            self.assertIs(caught.exception, error)
            self.same(self.whole(desk), before)
        with self.assertRaises(errors.CommandFailed):
            with Trial(desk) as held:
                self.turn_all(held)
                held.do_all("come 1", "x")
        self.same(self.whole(desk), before)

    def test_within_one_another(self):
        desk = self.told()
        before = self.whole(desk)
        with Trial(desk):
            desk.come("1")
            inner = self.whole(desk)
            with Trial(desk) as held:
                self.turn_all(held)
                with self.assertRaises(ValueError):
                    with Trial(desk):
                        desk.finish()
                        raise ValueError
            self.same(self.whole(desk), inner)
        self.same(self.whole(desk), before)

    def test_one_behind_another(self):
        desk = self.told()
        trial = Trial(desk)
        for _ in range(2):
            desk.come("0")
            before = self.whole(desk)
            with trial as held:
                self.turn_all(held)
            self.same(self.whole(desk), before)

    def test_what_was_done_ahead_can_be_taken_back_within(self):
        desk = self.told()
        with Trial(desk):
            self.same([desk.undo(), desk.undo(), len(desk)], ["beat 0", "come 0110", 0])
        self.same([desk.undo(), desk.undo(), len(desk)], ["beat 0", "come 0110", 0])

    def test_tried(self):
        desk = self.told()
        before = self.whole(desk)
        self.same([tried(desk, lambda held: (held.finish(), held.do("flows"))), tried(action=len, desk=desk),
                   tried(desk, lambda held: held is desk)], [(7, "0110"), 2, True])
        self.same(tried(desk, self.turn_all), None)
        self.same(self.whole(desk), before)
        with self.assertRaises(errors.CannotBeDone):
            tried(desk, lambda held: (held.come("0"), held.finish(), held.beat(0)))
        self.same(self.whole(desk), before)
        self.same(tried(desk, lambda held: tried(held, lambda inner: inner.finish()) + held.finish()), 14)


class Again(DeskCases):
    def test_on_the_same_yard(self):
        dice = Dice(933)
        for _ in range(20):
            yard = some_yard(dice, 2)
            sizes = some_sizes(dice, yard) if dice.below(2) else None
            desk, plain = Desk(yard, sizes, dice.below(3)), PlainDesk(yard, sizes, 0)
            for name in NAMES:
                there = dice.one_of(yard.stations)
                desk[name] = plain.spares[name] = some_station(dice, there.ins, there.outs)
            for _ in range(12):
                command = some_command(dice, plain)
                desk.do(command)
                plain.do(command)
            before = self.whole(desk)
            again = told_again(desk, yard)
            self.same(self.whole(again), before)
            self.same([again.sizes, again.apart], [desk.sizes, desk.apart])
            again.come("0")
            if "b" not in again:
                again["b"] = PASS
            self.same(["b" in desk, self.whole(desk)], [False, before])

    def test_on_another_yard(self):
        desk = ready(ROW, "0110", (2,), 3)
        desk["half"] = HALF
        desk.do_all("beat 0", "beat 1", "swap 1 half 1", "finish")
        other = Yard([PASS, TURN], [(0, 0, 1, 0)])
        again = told_again(yard=other, desk=desk)
        self.same([again.log(), again.sizes, again.apart, again("flows")], [desk.log(), (2,), 3, "110"])
        self.assertEqual(again.stations, [PASS, HALF])
        self.assertEqual(again["half"], HALF)

    def test_errors(self):
        desk = ready(ROW, "0110", (2,))
        self.fails(errors.InvalidSizes, {"value": (2,)}, told_again, desk, COPIES)
        free = ready(ROW, "01")
        free.do_all("beat 0", "beat 1")
        self.fails(errors.CommandFailed, {"position": 2}, told_again, free, COPIES)
        self.fails(errors.CommandFailed, {"position": 2}, told_again, free, Yard([HALF, PASS], [(0, 0, 1, 0)]))
        with self.assertRaises(errors.CommandFailed) as caught:
            told_again(free, Yard([HALF, PASS], [(0, 0, 1, 0)]))
        self.assertIsInstance(caught.exception.__cause__, errors.CannotBeDone)
        self.same([caught.exception.__cause__.value, free.log()], [1, ["come 01", "beat 0", "beat 1"]])
        loud = ready(COPIES, "0" * 700)
        loud.finish()
        self.fails(errors.CommandFailed, {"position": 1}, told_again, loud, doubling(4))
        self.same(told_again(Desk(COPIES), OVERVIEW).log(), [])
        self.same(told_again(ready(COPIES, "1"), Yard([TWICE], [])).came, "1")


if __name__ == "__main__":
    unittest.main()

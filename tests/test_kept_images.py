"""[83], [84]: images that are kept, kept papers and pairs, breaks and the least break."""

import unittest

from flowyard import errors
from flowyard.swaps import images, is_break, is_kept, is_kept_paper, kept_paper, least_break, moments
from flowyard.yards import Station, Yard
from helper import COPY, EATS, PASS, ROW, TURN, TWICE, Cases, Dice, no_counts, odd_values
from slow_rests import all_texts
from slow_swaps import Pairing, beats_of_station, slow_breaks, slow_is_break
from some_looked import fails_looking
from some_yards import LATE, counting, doubling, fourfold, only
from spoiling import few, with_tuples, wrong_kinds
from test_swaps import BASE, NO_NEWS, PARITY, WIDE, some_parts

PAIRS = {"what": "pairs", "limit": 1000}
BEATS = {"what": "beats", "limit": 20000}
# It is never come to: the images of its standing 1 are all kept.
FAR = Yard([Station(1, 1, [("1", [(("0",), 0, 1), (("1",), 0, 1)]), ("1", [(("1",), 0, 1)] * 2)])], [])
# A thousand pairs, and a thousand and one, of a counter of ones and one that counts in another way.
COUNTS_SOME = Station(1, 1, [("1", [(("",), 2, 1), (("",), 1, 1)]), ("1", [(("0",), 1, 1), (("0",), 1, 1)]),
                             ("1", [(("0",), 1, 1), (("",), 1, 1)])])
THOUSAND = (counting(39, only("1")), 0, COUNTS_SOME, 0, 0)
COUNTS_OTHERS = Station(1, 1, [("1", [(("0",), 1, 1), (("0",), 1, 1)]), ("1", [(("",), 3, 1), (("",), 1, 1)]),
                               ("1", [(("",), 2, 1), (("",), 1, 1)]), ("1", [(("",), 1, 1), (("",), 3, 1)])])
MORE_PAIRS = (counting(27, only("1")), 0, COUNTS_OTHERS, 0, 2)


def doubled(station):
    """The station with each standing twice, goals now in the one half and now in the other."""
    rows = station.standings()
    many = len(rows)
    both = [(reads, [(gives, goal + many * ((goal + at + half) % 2), ticks) for at,
                     (gives, goal, ticks) in enumerate(told)])
            for half in (0, 1) for reads, told in rows]
    return Station(station.ins, station.outs, both)


def turned(station):
    """The station with its standings numbered the other way round."""
    rows = station.standings()
    return Station(station.ins, station.outs, [(reads, [(gives, len(rows) - 1 - goal, ticks) for gives, goal,
                                                        ticks in told])
                                               for reads, told in rows[::-1]])


def some_swap(dice):
    """Parts of which the new station is often the old one in other words."""
    yard, station, new = some_parts(dice, 2, 4)
    there = yard.stations[station]
    ways = [new, there, turned(there)] + ([doubled(there), turned(doubled(there))] * 2 if len(there) < 3 else [])
    return yard, station, dice.one_of(ways)


class Images(Cases):
    def test_the_documents_yard(self):
        self.same([images(BASE, 0, WIDE), least_break(BASE, 0, WIDE, 0, 1)], [{0: [0, 2], 1: [1]}, ("0", 0)])

    def test_some(self):
        for yard, station, new, told in [(BASE, 0, PARITY, {0: [0], 1: [1]}),
                                         (BASE, 0, turned(PARITY), {0: [1], 1: [0]}), (BASE, 0, PASS, {0: [], 1: []}),
                                         (FAR, 0, PASS, {0: [0], 1: [0]}), (FAR, 0, TURN, {0: [], 1: [0]}),
                                         (FAR, 0, doubled(PASS), {0: [0, 1], 1: [0, 1]}),
                                         (ROW, 1, TURN, {0: [0]}), (ROW, 0, PASS, {0: []}),
                                         (LATE, 0, LATE.stations[0], {0: [0], 1: [1]})]:
            self.same(images(yard, station, new), told)
        self.same(images(new=WIDE, station=0, yard=BASE), {0: [0, 2], 1: [1]})

    def test_what_waits_decides_too(self):
        # What the reader gives is the same; but at the image 1 it takes one sign more, or less, of the one line.
        late = Station(2, 1, [("12", [(("0",), 0, 1)] * 4), ("1", [(("",), 0, 1)] * 2)])
        yard = Yard([COPY, late], [(0, 0, 1, 0), (0, 1, 1, 1)])
        greedy = Station(2, 1, [("12", [(("0",), 1, 1)] * 4), ("2", [(("",), 0, 1)] * 2)])
        self.same(images(yard, 1, late), {0: [0], 1: [0, 1]})
        self.same(images(yard, 1, greedy), {0: [], 1: [0, 1]})
        held = Yard([COPY, Station(2, 1, [("12", [(("",), 0, 1)] * 4)])], [(0, 0, 1, 0), (0, 1, 1, 1)])
        filling = Station(2, 1, [("1", [(("",), 0, 1)] * 2)])
        self.same([images(held, 1, filling), least_break(held, 1, filling, 0, 0)], [{0: []}, ("0000", 0)])
        self.assertIs(is_break(held, 1, filling, 0, 0, ("0000", 0)), True)
        self.assertIs(is_break(held, 1, filling, 0, 0, ("000", 0)), False)
        self.assertIs(is_break(held, 1, filling, 0, 0, ("0000", 1)), False)
        self.assertIs(is_break(held, 1, filling, 0, 0, ("00000", 1)), True)

    def test_many_by_all_short_streams_and_all_k(self):
        dice = Dice(831)
        counts = [0, 0]
        for _ in range(60):
            yard, station, new = some_swap(dice)
            told = images(yard, station, new)
            self.same(list(told), list(range(len(yard.stations[station]))))
            for standing, kept in told.items():
                self.same(kept, [image for image in range(len(new)) if is_kept(yard, station, new, standing, image)])
                for image in few(list(range(len(new))), 2):
                    breaks = slow_breaks(dice, yard, station, new, standing, image, 4)
                    found = least_break(yard, station, new, standing, image)
                    counts[image in kept] += 1
                    self.same(found is None, image in kept)
                    if found is None or breaks:
                        self.same([found], breaks[:1] or [None])
                    else:
                        self.assertGreater(len(found[0]), 4)
                        self.assertIs(slow_is_break(dice, yard, station, new, image, *found), True)
                    if found is not None:
                        self.assertIs(is_break(yard, station, new, standing, image, found), True)
        self.assertGreater(min(counts), 60)

    def test_breaks_behind_some_beats(self):
        # Each image of standing 1 breaks, and standing 1 is come to behind a 1 alone.
        self.same([least_break(BASE, 0, PASS, 1, 0), least_break(BASE, 0, PASS, 0, 0),
                   least_break(BASE, 0, WIDE, 1, 0)], [("10", 1), ("10", 0), ("10", 1)])
        self.same(least_break(image=2, standing=1, new=WIDE, station=0, yard=BASE), ("10", 1))
        begun = Yard([PASS, PARITY], [(0, 0, 1, 0)], ((0, 0), ("11",)))
        # At the beginning 11 is to come there: PARITY gives 10 of it, and stands at 1 behind the first 1.
        self.same([least_break(begun, 1, PASS, standing, 0) for standing in (0, 1)], [("", 0), ("", 1)])
        self.same([least_break(begun, 1, TURN, standing, 0) for standing in (0, 1)], [("", 0), ("0", 1)])

    def test_the_least_k_is_one_that_breaks(self):
        # Of 01, which waits there, both signs are passed, but of 1 alone a 0 is made.
        begun = Yard([PASS, PASS], [(0, 0, 1, 0)], ((0, 0), ("01",)))
        new = Station(1, 1, [("1", [(("0",), 1, 1), (("0",), 0, 1)]), ("1", [(("0",), 1, 1), (("1",), 1, 1)])])
        self.same(least_break(begun, 1, new, 0, 0), ("", 1))
        self.same([is_break(begun, 1, new, 0, 0, ("", number)) for number in range(4)], [False, True, False, False])
        self.same(slow_breaks(Dice(1), begun, 1, new, 0, 0, 0), [("", 1)])


class KeptPapers(Cases):
    def test_many(self):
        dice = Dice(841)
        found = 0
        for _ in range(70):
            yard, station, new = some_swap(dice)
            for standing in range(len(yard.stations[station])):
                image = dice.below(len(new))
                pairing = Pairing(yard, station, new, image)
                told = moments(yard, station, standing)
                paper = kept_paper(yard, station, new, standing, image)
                self.same(paper is not None, is_kept(yard, station, new, standing, image))
                if paper is not None:
                    found += len(paper) > 1
                    self.same(sorted(paper), sorted(pairing.pairs(told)))
                    self.assertIs(pairing.is_kept_paper(told, paper), True)
                    for value in (paper, paper[::-1], tuple(paper)):
                        self.assertIs(is_kept_paper(yard, station, new, standing, image, value), True)
                    for at in range(len(paper)):
                        less = paper[:at] + paper[at + 1:]
                        self.assertIs(is_kept_paper(yard, station, new, standing, image, less), False)
                        self.assertIs(is_kept_paper(yard, station, new, standing, image, paper + [paper[at]]), False)
        self.assertGreater(found, 40)

    def test_lists_by_the_words_of_the_point(self):
        dice = Dice(842)
        counts = [0, 0]
        for _ in range(60):
            yard, station, new = some_swap(dice)
            standing, image = dice.below(len(yard.stations[station])), dice.below(len(new))
            pairing = Pairing(yard, station, new, image)
            told = moments(yard, station, standing)
            paper = kept_paper(yard, station, new, standing, image) or []
            for _ in range(6):
                value = [pair for pair in paper if dice.below(9)]
                for _ in range(dice.below(3)):
                    mine = tuple(dice.below(len(each)) for each in pairing.old.stations)
                    yours = tuple(dice.below(len(each)) for each in pairing.new.stations)
                    contents = [tuple(dice.text(1) for _ in yard.pipes) for _ in "01"]
                    value.append(((mine, contents[0]), (yours, dice.one_of(contents))))
                wanted = pairing.is_kept_paper(told, value)
                counts[wanted] += 1
                self.assertIs(is_kept_paper(yard, station, new, standing, image, value), wanted)
        self.assertGreater(min(counts), 50)

    def test_further_ones_may_be_such_at_which_beats_can_be_done(self):
        paper = kept_paper(ROW, 1, TURN, 0, 0)
        self.same(paper, [(((0, 0), ("",)), ((0, 0), ("",)))])
        waiting = [(((0, 0), (text,)), ((0, 0), (text,))) for text in ("0", "1", "011")]
        self.assertIs(is_kept_paper(ROW, 1, TURN, 0, 0, paper + waiting), True)
        self.assertIs(is_kept_paper(ROW, 1, TURN, 0, 0, waiting), False)
        self.assertIs(is_kept_paper(ROW, 1, TURN, 0, 0, paper + [(((0, 0), ("0",)), ((0, 0), ("1",)))]), False)
        self.assertIs(is_kept_paper(ROW, 1, TURN, 0, 0, paper + [(((0, 0), ("0000",)), ((0, 0), ("0000",)))]), False)

    def test_of_a_standing_that_is_never_come_to(self):
        for value, wanted in [([], True), ((), True), ([(((0,), ()), ((0,), ()))], False), (None, False)]:
            self.assertIs(is_kept_paper(FAR, 0, TURN, 1, 0, value), wanted)
        self.same([kept_paper(FAR, 0, TURN, 1, 0), least_break(FAR, 0, TURN, 1, 0)], [[], None])
        self.assertIs(is_kept_paper(FAR, 0, PASS, 1, 0, [(((0,), ()), ((0,), ()))]), True)
        self.assertIs(is_kept_paper(FAR, 0, PASS, 0, 0, []), False)

    def test_of_images_that_are_not_kept_there_are_none(self):
        for standing, image in [(0, 1), (1, 0), (1, 2)]:
            for value in ([], kept_paper(BASE, 0, WIDE, 0, 0),
                          [(((a,), ()), ((b,), ())) for a in range(2) for b in range(3)]):
                self.assertIs(is_kept_paper(BASE, 0, WIDE, standing, image, value), False)

    def test_any_value(self):
        paper = kept_paper(BASE, 0, WIDE, 0, 0)
        self.same(sorted(paper), [(((0,), ()), ((0,), ())), (((0,), ()), ((2,), ())), (((1,), ()), ((1,), ()))])
        for value in wrong_kinds(paper) + odd_values() + [[], (), "", 0, [None], [()], [[*pair] for pair in paper],
                                                          [pair[:1] for pair in paper],
                                                          [pair + pair for pair in paper], paper + [None],
                                                          paper + [(((2,), ()), ((0,), ()))],
                                                          paper + [(((0,), ()), ((3,), ()))],
                                                          paper + [(((0,), ("",)), ((0,), ("",)))]]:
            self.assertIs(is_kept_paper(BASE, 0, WIDE, 0, 0, value), False)
        for pair in [(((False,), ()), ((0,), ())), (((1,), ()), ((True,), ())), (((0,), ()), ([0], ())),
                     (((0,), []), ((0,), ())), ((0,), (0,)), "00", None]:
            self.assertIs(is_kept_paper(BASE, 0, WIDE, 0, 0, paper + [pair]), False)
        self.assertIs(is_kept_paper(value=with_tuples(paper), image=0, standing=0, new=WIDE, station=0, yard=BASE),
                      True)
        for pair in paper:
            for other in (pair[:1], pair + pair[:1], pair + pair, ()):
                self.assertIs(is_kept_paper(BASE, 0, WIDE, 0, 0, paper + [other]), False)
        # The first one of the two yards has two standings alone, the second one three.
        self.assertIs(is_kept_paper(BASE, 0, WIDE, 0, 0, paper + [(((0,), ()), ((2,), ()))][1:]), True)

    def test_a_thousand_pairs_and_more(self):
        self.same([len(kept_paper(*THOUSAND)), is_kept(*THOUSAND), least_break(*THOUSAND)], [1000, True, None])
        yard, station, new, standing, image = MORE_PAIRS
        for call in (is_kept, kept_paper, least_break):
            self.fails(errors.TooMany, PAIRS, call, yard, station, new, standing, image)
        self.fails(errors.TooMany, PAIRS, images, yard, station, new)
        # The functions with value count no pairs.
        self.assertIs(is_kept_paper(yard, station, new, standing, image, []), False)
        self.assertIs(is_break(yard, station, new, standing, image, ("0", 0)), False)

    def test_pairs_behind_a_break_count_too(self):
        # At the second exit both part at the first sign; the counters make as many pairs all the same.
        counter = counting(40).stations[1:]
        first = Station(1, 2, [("1", [(("0", "0"), 0, 1), (("", "1"), 0, 1)])])
        yard = Yard([first, *counter], [(0, 0, 1, 0), (1, 0, 2, 0), (2, 0, 3, 0)],
                    ((0, *counting(40).begin[0][1:]), ("",) * 3))
        unlike = Station(1, 2, [("1", [(("", "1"), 0, 1), (("0", "0"), 0, 1)])])
        alike = Station(1, 2, [("1", [(("", "0"), 0, 1), (("0", "1"), 0, 1)])])
        self.same(least_break(yard, 0, unlike, 0, 0), ("0", 0))
        for call in (is_kept, kept_paper, least_break):
            self.fails(errors.TooMany, PAIRS, call, yard, 0, alike, 0, 0)
        self.fails(errors.TooMany, PAIRS, images, yard, 0, alike)

    def test_pairs_that_part_are_not_counted(self):
        half_way = Station(1, 2, [("1", [(("0", "0"), 0, 1), (("", "1"), 0, 1)])])
        counter = counting(40).stations[1:]
        yard = Yard([half_way, *counter], [(0, 0, 1, 0), (1, 0, 2, 0), (2, 0, 3, 0)],
                    ((0, *counting(40).begin[0][1:]), ("",) * 3))
        unlike = Station(1, 2, [("1", [(("", "11"), 0, 1), (("0", "11"), 0, 1)])])
        self.same([images(yard, 0, unlike), least_break(yard, 0, unlike, 0, 0)], [{0: []}, ("0", 0)])


class Breaks(Cases):
    def test_all_short_ones(self):
        dice = Dice(832)
        counts = [0, 0]
        for _ in range(25):
            yard, station, new = some_swap(dice)
            standing, image = dice.below(len(yard.stations[station])), dice.below(len(new))
            for stream in all_texts(3):
                stands = beats_of_station(yard, station, stream)
                for number in few(list(range(len(stands) + 2)), 6):
                    wanted = (number < len(stands) and stands[number] == standing
                              and slow_is_break(dice, yard, station, new, image, stream, number))
                    counts[wanted] += 1
                    self.assertIs(is_break(yard, station, new, standing, image, (stream, number)), wanted)
        self.assertGreater(min(counts), 50)

    def test_any_value(self):
        self.assertIs(is_break(BASE, 0, WIDE, 0, 1, ("0", 0)), True)
        self.assertIs(is_break(value=("0" * 1000, 1000 - 1), image=1, standing=0, new=WIDE, station=0, yard=BASE), True)
        for value in odd_values() + [[], (), "", 0, ("0",), ["0", 0], ("0", 0, 0), ("0", None), ("0", "0"),
                                     ("0", True), ("0", False), ("0", -1),
                                     (0, 0), (None, 0), (["0"], 0), ("2", 0), ("0" * 1001, 0), ("0", 1), ("0", 2),
                                     ("0", 10 ** 29), ("1", 1)]:
            self.assertIs(is_break(BASE, 0, WIDE, 0, 1, value), False)
        for value in wrong_kinds(("00", 1)):
            self.assertIs(is_break(BASE, 0, WIDE, 0, 1, value), False)

    def test_too_many_beats(self):
        loud = Yard([*doubling(5).stations[:5], EATS], [(k, 0, k + 1, 0) for k in range(5)])
        for value in (("0" * 1000, 0), ("0" * 1000, 1000)):
            self.fails(errors.TooMany, BEATS, is_break, loud, 0, TWICE, 0, 0, value)
        # No more beats than these are done of the first station: so it is no break, whatever a full run has.
        self.assertIs(is_break(loud, 0, TWICE, 0, 0, ("0" * 1000, 1001)), False)
        for value in (("0" * 300, 0), ("0" * 1001, 0), None):
            self.assertIs(is_break(loud, 0, TWICE, 0, 0, value), False)
        silent = Yard([EATS, *loud.stations], [(k, 0, k + 1, 0) for k in range(6)])
        self.fails(errors.TooMany, BEATS, is_break, silent, 0, TWICE, 0, 0, ("0" * 1000, 0))
        self.assertIs(is_break(silent, 0, TWICE, 0, 0, ("0" * 1000, 1000)), False)

    def test_too_many_beats_of_the_least_break(self):
        # The kind of the sixteenth sign is the first one that shows, and each sign makes 1,367 beats and more.
        copies = Station(1, 2, [("1", [(("0", "0"), 0, 1), (("0", "0"), 0, 1)])])
        passes = Station(1, 2, [("1", [(("0", "0"), 0, 1), (("1", "0"), 0, 1)])])
        fourth = Station(1, 1, [("1", [(("",), k + 1, 1)] * 2)
                                for k in range(3)] + [("1", [(("0",), 0, 1), (("1",), 0, 1)])])
        loud = fourfold(5)
        pipes = [(0, 0, 1, 0), (1, 0, 2, 0), (0, 1, 3, 0)] + [(a + 3, b, c + 3, d) for a, b, c, d in loud.pipes]
        yard = Yard([copies, fourth, fourth, *loud.stations], pipes)
        self.fails(errors.TooMany, BEATS, least_break, yard, 0, passes, 0, 0)
        self.same([is_kept(yard, 0, passes, 0, 0), images(yard, 0, passes), kept_paper(yard, 0, passes, 0, 0)],
                  [False, {0: []}, None])
        self.fails(errors.TooMany, BEATS, is_break, yard, 0, passes, 0, 0, ("0" * 15 + "1", 0))
        self.assertIs(is_break(yard, 0, passes, 0, 0, ("1" * 12, 0)), False)
        quiet = Yard([copies, fourth, fourth, *fourfold(2).stations], [pipe for pipe in pipes if pipe[2] < 6])
        self.same(least_break(quiet, 0, passes, 0, 0), ("0" * 15 + "1", 0))


class Errors(Cases):
    JUDGES = [is_kept_paper, is_break]

    def test_parameters_of_the_judges(self):
        for call in self.JUDGES:
            self.fails_on(errors.InvalidStation, no_counts() + [1],
                          lambda value: call(BASE, value, None, None, None, None))
            self.fails_on(errors.InvalidNew, NO_NEWS, lambda value: call(BASE, 0, value, None, None, None))
            self.fails_on(errors.InvalidStanding, no_counts() + [2],
                          lambda value: call(BASE, 0, WIDE, value, None, None))
            self.fails_on(errors.InvalidImage, no_counts() + [3], lambda value: call(BASE, 0, WIDE, 0, value, None))

    def test_looking_through(self):
        for call in self.JUDGES:
            for value in (None, [], ("0", 0)):
                fails_looking(self, lambda yard: call(yard, 0, yard.stations[0], 0, 0, value))

    def test_nothing_is_changed(self):
        paper = kept_paper(BASE, 0, WIDE, 0, 0)
        before = repr(paper)
        self.assertIs(is_kept_paper(BASE, 0, WIDE, 0, 0, paper), True)
        self.assertEqual(repr(paper), before)
        paper.clear()
        self.assertEqual(repr(kept_paper(BASE, 0, WIDE, 0, 0)), before)
        self.same([BASE.stations, WIDE.standings()[0][0]], [[PARITY], "1"])


if __name__ == "__main__":
    unittest.main()

"""[4]: the guarantees, each on drawn yards and terms."""

import unittest

from flowyard import errors, forever, room, same
from flowyard.alarms import alarms, is_sure
from flowyard.compiling import compiled
from flowyard.fusing import fused
from flowyard.needs import exchanges, are_exchanges
from flowyard.pace import delay, heights, are_heights, is_later, late_stream, pace, ring_mean, slowest
from flowyard.patches import kept_exits, patched, shown_by, word
from flowyard.runs import done, begin_of, can_be_done, end, flows, full_run, is_full
from flowyard.swaps import images, is_break, is_kept_paper, kept_paper, least_break, swapped_end
from flowyard.taps import can_be_heard, is_part
from flowyard.terms import flow_of
from flowyard.texts import read_term, read_yard, written
from flowyard.watch import breaker, is_breaker, is_kept_paper as is_paper_of_wish, kept_paper as paper_of_wish
from helper import Cases, Dice, some_sizes, some_station, some_yard
from slow_rests import all_texts
from some_held import some_held, some_two
from some_taps import some_latched
from some_terms import some_term
from some_wishes import some_wish


def drawn_run(dice, yard, stream, sizes):
    """A full run in a drawn sequence, and the state behind it."""
    state = begin_of(yard, stream)
    run = []
    while can := can_be_done(yard, state, sizes):
        run.append(dice.one_of(can))
        state = done(yard, state, run[-1], sizes)
    return run, state


class Guarantees(Cases):
    def test_one_end(self):
        dice = Dice(41)
        for _ in range(40):
            yard, stream = some_yard(dice, 3), dice.text(3)
            sizes = some_sizes(dice, yard) if dice.below(2) else None
            runs = [drawn_run(dice, yard, stream, sizes) for _ in range(4)]
            for run, state in runs:
                self.same([sorted(run), state], [sorted(full_run(yard, stream, sizes)), end(yard, stream, sizes)])
                self.assertIs(is_full(yard, stream, run, sizes), True)
            if len(runs[0][0]) <= 40:
                for one, _ in runs:
                    for other, _ in runs:
                        places = exchanges(yard, stream, one, other, sizes)
                        self.assertIs(are_exchanges(yard, stream, one, other, places, sizes), True)

    def test_meant(self):
        dice = Dice(42)
        for _ in range(60):
            term = some_term(dice, 9)
            yard = compiled(term) if self.fits(term) else None
            for stream in [dice.text(6) for _ in range(5)] + [""]:
                if yard is not None:
                    told = [flow_of(term, stream)]
                    self.same([flows(yard, stream), flows(fused(yard), stream),
                               flows(read_yard(written(yard)), stream)], [told] * 3)
            self.same(read_term(written(term)), term)

    def fits(self, term):
        try:
            compiled(term)
        except (errors.InvalidStations, errors.TooMany):
            return False
        return True

    def test_same_or_parted(self):
        dice = Dice(43)
        counts = [0, 0]
        for _ in range(90):
            one, other = some_two(dice)
            paper, stream = same.same_paper(one, other), same.parting(one, other)
            self.same((paper is None) + (stream is None), 1)
            ahead, endless = forever.ahead_list(one, 0, other, 0), forever.endless_parting(one, 0, other, 0)
            self.same((ahead is None) + (endless is None), 1)
            counts[paper is None] += 1
            # What is the same at every moment is so for ever, too.
            self.assertFalse(paper is not None and ahead is None)
            if stream is not None:
                self.assertIs(same.is_parting(one, other, stream), True)
                self.assertIs(same.is_same_paper(one, other, []), False)
        self.assertGreater(min(counts), 15)

    def test_enough_or_still(self):
        dice = Dice(44)
        counts = [0, 0]
        for _ in range(150):
            yard = some_yard(dice, 3)
            sizes = some_sizes(dice, yard)
            try:
                enough = room.are_enough(yard, sizes)
            except errors.TooMany:
                continue
            counts[enough] += 1
            told, still = room.room_list(yard, sizes), room.standstill(yard, sizes)
            self.same([told is not None, still is None], [enough, enough])
            self.assertIs(room.is_room_list(yard, sizes, told), enough)
            self.assertIs(room.is_standstill(yard, sizes, still), not enough)
            if enough:
                more = tuple(min(3, size + dice.below(2)) for size in sizes)
                try:
                    self.assertIs(room.are_enough(yard, more), True)
                except errors.TooMany:
                    pass
        self.assertGreater(min(counts), 20)

    def test_late_by_so_much(self):
        dice = Dice(45)
        counts = [0, 0]
        for _ in range(40):
            yard, apart = some_held(dice), dice.below(4)
            late = delay(yard, apart)
            counts[late is None] += 1
            if late is None:
                ticks, signs = ring_mean(yard, slowest(yard))
                self.same((ticks, signs), pace(yard))
                self.assertGreater(ticks, apart * signs)
            else:
                self.assertIs(are_heights(yard, apart, late, heights(yard, apart)), True)
                self.assertIs(is_later(yard, apart, late, late_stream(yard, apart)), False)
                if late:
                    self.assertIs(is_later(yard, apart, late - 1, late_stream(yard, apart)), True)
                for stream in all_texts(3):
                    self.assertIs(is_later(yard, apart, late, stream), False)
        self.assertGreater(min(counts), 8)

    def test_kept_or_broken(self):
        dice = Dice(46)
        for _ in range(60):
            yard, wish = some_held(dice), some_wish(dice)
            paper, stream = paper_of_wish(yard, 0, wish), breaker(yard, 0, wish)
            self.same((paper is None) + (stream is None), 1)
            self.assertIs(is_paper_of_wish(yard, 0, wish, paper), paper is not None)
            self.assertIs(is_breaker(yard, 0, wish, stream), stream is not None)

    def test_never_false(self):
        dice = Dice(47)
        sure = 0
        for _ in range(60):
            yard = dice.one_of([some_held, some_latched])(dice)
            rests = [dice.below(4)] + [9] * dice.below(2)
            told = alarms(yard, 0, rests)
            for text in all_texts(4):
                if can_be_heard(yard, 0, text):
                    rung = any(is_part(each, text) for each in told)
                    self.assertIs(is_sure(yard, 0, rests, text), rung)
                    sure += rung
        self.assertGreater(sure, 50)

    def test_nobody_tells(self):
        dice = Dice(48)
        counts = [0, 0]
        for _ in range(50):
            yard = some_held(dice)
            station = dice.below(len(yard))
            new = dice.one_of([yard.stations[station], some_station(dice, 1, 1)])
            for standing, kept in images(yard, station, new).items():
                for image in range(len(new)):
                    paper, broken = kept_paper(yard, station, new, standing,
                                               image), least_break(yard, station, new, standing, image)
                    counts[image in kept] += 1
                    self.same([paper is not None, broken is None], [image in kept] * 2)
                    self.assertIs(is_kept_paper(yard, station, new, standing, image, paper), image in kept)
                    self.assertIs(is_break(yard, station, new, standing, image, broken), image not in kept)
                    if broken is not None:
                        stream, number = broken
                        behind = swapped_end(yard, station, new, stream, number, image)
                        self.assertTrue(behind[3] != end(yard, stream)[3] or max(len(text) for text in behind[1]) > 3)
        self.assertGreater(min(counts), 30)

    def test_patches_that_keep_all_exits_keep(self):
        dice = Dice(49)
        for _ in range(60):
            yard = some_held(dice)
            there = yard.stations[0]
            patch = [(0, 0, "0", dice.one_of([there.row(0, "0"), (("0",), 0, 1), there.row(len(there) - 1, "1")]))]
            told = word(yard, patch, [0])
            self.same(told == "keeps", same.are_same(yard, patched(yard, patch)))
            self.same(told == "keeps", kept_exits(yard, patch) == [0])
            self.same(shown_by(yard, patch, [0]), same.parting(yard, patched(yard, patch)))


if __name__ == "__main__":
    unittest.main()

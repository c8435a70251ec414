"""Benches: what runs at a desk, how it stands, and since when."""

from flowyard.moments import Clock, slots_at
from flowyard.orders import numbered
from flowyard.runs import begin_of
from flowyard.walks import Walk, wired
from flowyard.yards import put_at, with_station

_MOST_BEATS = 20000


class Bench:
    """How a desk stands at one time. It never changes: what is done makes another one.

    The yard is that of the stations as they are now, whose beginning says nothing; what it is at now
    is a state [13]. Moments are told for its slots, and begins and ends for its beats, as they were done.
    """

    def __init__(self, yard, now, slots, signs, beats):
        self.yard = yard
        self.now = now
        self.signs = signs
        self.beats = beats
        self._slots = slots

    def with_signs(self, text):
        """Where signs have come to the end of what is left of the stream."""
        standings, contents, rest, flows = self.now
        return Bench(self.yard, (standings, contents, rest + text, flows), self._slots, self.signs + text, self.beats)

    def with_new(self, station, new, standing):
        """Where a new station stands there in the place of the one that was there."""
        standings, contents, rest, flows = self.now
        now = (put_at(standings, station, standing), contents, rest, flows)
        return Bench(with_station(self.yard, station, new, 0), now, self._slots, self.signs, self.beats)

    def with_beats(self, run, sizes, apart):
        """Where the beats of this run, which can be done, have been done."""
        come = len(self.signs)
        comings = [{None: number * apart} for number in range(come - len(self.now[2]), come)]
        walk = self._walk(sizes)
        clock = Clock(walk, sizes, self._slots, comings)
        beats = list(self.beats)
        for station in run:
            begin, over, _ = clock.do(station)
            beats.append((begin[None], over[None], station))
        return Bench(self.yard, walk.state_now(), clock.slots(len(self.yard.pipes)), self.signs, tuple(beats))

    def can_be_done(self, sizes):
        return self._walk(sizes).can_do_now()

    def run_to_end(self, sizes):
        """The stations of all beats, always that of the first one that can be done; TooMany beats."""
        return self._walk(sizes).finish(_MOST_BEATS)

    def times(self):
        """For each beat that was done its begin, its end and itself, sorted."""
        told = numbered([station for _, _, station in self.beats])
        return sorted([(begin, over, beat) for (begin, over, _), beat in zip(self.beats, told)])

    def _walk(self, sizes):
        return Walk(wired(self.yard), self.now, sizes)


def bench_at_begin(yard, sizes):
    slots = {slot: {None: 0} for slot in slots_at(yard, yard.begin[1], sizes)}
    return Bench(yard, begin_of(yard, ""), slots, "", ())

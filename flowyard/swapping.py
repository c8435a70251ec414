"""Stations that are swapped amid runs: at which moments, and to which pairs both yards come then."""

from flowyard.errors import TooMany
from flowyard.looking import MOST_WAITING
from flowyard.walks import Walk, end_of, wired
from flowyard.yards import is_begin, put_at, with_station

_MOST_PAIRS = 1000


class Stops:
    """A yard that was looked through, and where one of its stations can be swapped.

    For the beginning, and for each step, these are tuples (standings, contents) at which no other station
    can do a beat and all signs are taken: the moments of all standings.
    """

    def __init__(self, yard, looked, station):
        self.station = station
        self.steps = looked.steps
        wiring = wired(yard)
        silent = ("",) * len(yard.exits)
        self.first = _stops(wiring, station, (*yard.begin, "", silent))
        self.behind = {}
        for number, rest in enumerate(looked.rests):
            for sign in "01":
                self.behind[(number, sign)] = _stops(wiring, station, (*rest, sign, silent))

    def moments(self, standing):
        """All moments at which the station stands there, sorted."""
        found = {}
        for stops in [self.first, *list(self.behind.values())]:
            for stop in stops:
                if stop[0][self.station] == standing:
                    found[stop] = True
        return sorted(found)


class Swap:
    """What comes of the yard as it is and of the yard with the new station at the image, side by side.

    A PAIR is a tuple of two tuples (standings, contents), one of each of both yards. None stands for
    both if they do not give the same, or if too much waits in a pipe of the second one.
    """

    def __init__(self, yard, station, new, image):
        self.station = station
        self._image = image
        self._pipes = yard.pipes
        self._silent = ("",) * len(yard.exits)
        exchanged = with_station(yard, station, new, image)
        self._stations = (yard.stations, exchanged.stations)
        self._old = wired(yard)
        self._new = wired(exchanged)

    def from_moment(self, moment):
        standings, contents = moment
        swapped = (put_at(standings, self.station, self._image), contents)
        return self._pair_behind((moment, swapped), "")

    def from_pair(self, pair, sign):
        return self._pair_behind(pair, sign)

    def is_pair(self, value):
        """Whether it can stand in a kept paper."""
        if not isinstance(value, tuple) or len(value) != 2:
            return False
        return all([is_begin(stations, self._pipes, rest) for stations, rest in zip(self._stations, value)])

    def _pair_behind(self, pair, stream):
        mine, yours = pair
        my_standings, my_contents, _, my_texts = end_of(self._old, (*mine, stream, self._silent))
        standings, contents, _, texts = end_of(self._new, (*yours, stream, self._silent))
        if my_texts != texts or any([len(text) > MOST_WAITING for text in contents]):
            return None
        return ((my_standings, my_contents), (standings, contents))


def look_at_pairs(stops, swap, standing):
    """All pairs of an image of the standing, and the least stream at which both yards part; None without one."""
    met = {}
    broken = None
    # For each stream, in order, the rest and the pairs to which no lesser one leads; None in the place of no rest.
    groups = [("", 0, _pairs_of(stops.first, swap, standing))]
    rests = {0: True, None: True}
    at = 0
    while at < len(groups):
        stream, rest, pairs = groups[at]
        at += 1
        if None in pairs and broken is None:
            broken = stream
        fresh = [pair for pair in pairs if pair is not None and pair not in met]
        for pair in fresh:
            met[pair] = True
        if len(met) > _MOST_PAIRS:
            raise TooMany("pairs", _MOST_PAIRS)
        for sign in "01":
            goal, moments = _step_of_rest(stops, rest, sign)
            behind = [swap.from_pair(pair, sign) for pair in fresh] + _pairs_of(moments, swap, standing)
            if goal not in rests or behind != []:
                groups.append((stream + sign, None if goal in rests else goal, _each_once(behind)))
            rests[goal] = True
    return list(met), broken


def states_behind_beats(wiring, station, state):
    """The states at which no other station can do a beat, behind none, one, two .. beats of this one."""
    others = list(wiring)
    others[station] = [(lines, {}) for lines, _ in wiring[station]]
    found = [end_of(others, state)]
    walk = Walk(wiring, found[-1])
    while walk.can_do(station):
        walk.do(station)
        found.append(end_of(others, walk.state_now()))
        walk = Walk(wiring, found[-1])
    return found


def _stops(wiring, station, state):
    """Those of these states at which all signs of the stream are taken, without what was given."""
    return [state_then[:2] for state_then in states_behind_beats(wiring, station, state) if state_then[2] == ""]


def _step_of_rest(stops, rest, sign):
    """The rest to which the sign leads, and what the station can be swapped at meanwhile."""
    if rest is None:
        return None, []
    goal, _ = stops.steps[rest][int(sign)]
    return goal, stops.behind[(rest, sign)]


def _pairs_of(stops, swap, standing):
    """The pairs to which both yards come from those of the stops that are moments of the standing."""
    return [swap.from_moment(stop) for stop in stops if stop[0][swap.station] == standing]


def _each_once(pairs):
    return list({pair: True for pair in pairs})

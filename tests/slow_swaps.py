"""A slow reading of [81] to [84] for the tests: beats in drawn sequences, all runs of all short streams, all k."""

from flowyard.yards import Yard
from helper import slow_begin, slow_behind, slow_can
from slow_rests import all_texts, slow_end, slow_finish


def slow_exchanged(yard, station, new, image):
    stations = yard.stations
    stations[station] = new
    standings = list(yard.begin[0])
    standings[station] = image
    return Yard(stations, yard.pipes, (tuple(standings), yard.begin[1]))


def at_image(state, station, image):
    standings = list(state[0])
    standings[station] = image
    return (tuple(standings), *state[1:])


def drawn_states(dice, yard, station, stream, number):
    """States of a drawn run at which the station has done so many beats: just then, and a little later."""
    state = slow_begin(yard, stream)
    done = 0
    while done < number:
        pick = dice.one_of(slow_can(yard, state, None))
        done += pick == station
        state = slow_behind(yard, state, pick, None)
    found = [state]
    others = [each for each in slow_can(yard, state, None) if each != station]
    while others and dice.below(5):
        state = slow_behind(yard, state, dice.one_of(others), None)
        found.append(state)
        others = [each for each in slow_can(yard, state, None) if each != station]
    return found


def slow_swapped_end(dice, yard, station, new, stream, number, image):
    """By beats in a drawn sequence, ahead of the swap and behind it."""
    state = at_image(dice.one_of(drawn_states(dice, yard, station, stream, number)), station, image)
    behind = slow_exchanged(yard, station, new, image)
    while can := slow_can(behind, state, None):
        state = slow_behind(behind, state, dice.one_of(can), None)
    return state


def beats_of_station(yard, station, stream):
    """How many beats a station has in the full runs, and where it stands behind each number of them."""
    state = slow_begin(yard, stream)
    stands = [state[0][station]]
    number = 0
    while number < len(yard):
        behind = slow_behind(yard, state, number, None)
        if behind is None:
            number += 1
            continue
        state = behind
        if number == station:
            stands.append(state[0][station])
        number = 0
    return stands


def slow_moments(yard, station, standing, most):
    """By all runs of all short streams that take a sign only where nothing else can be done."""
    found = set()
    met = set()
    waiting = [slow_begin(yard, stream)[:3] for stream in all_texts(most)]
    silent = ("",) * len(yard.exits)
    while waiting:
        here = waiting.pop()
        if here in met:
            continue
        met.add(here)
        can = slow_can(yard, (*here, silent), None)
        if here[2] == "" and here[0][station] == standing and set(can) <= {station}:
            found.add(here[:2])
        inner = [number for number in can if number > 0]
        waiting += [slow_behind(yard, (*here, silent), number, None)[:3] for number in inner or can]
    return sorted(found)


def slow_is_break(dice, yard, station, new, image, stream, number):
    """Whether the END of the swap is not as it should be; the station stands where it is asked about."""
    state = slow_swapped_end(dice, yard, station, new, stream, number, image)
    return state[3] != slow_end(yard, stream)[3] or any(len(text) > 3 for text in state[1])


def slow_breaks(dice, yard, station, new, standing, image, most):
    """All breaks with short streams, in order."""
    return [(stream, number) for stream in all_texts(most)
            for number, stands in enumerate(beats_of_station(yard, station, stream))
            if stands == standing and slow_is_break(dice, yard, station, new, image, stream, number)]


class Pairing:
    """Both yards side by side."""

    def __init__(self, yard, station, new, image):
        self.old = yard
        self.new = slow_exchanged(yard, station, new, image)
        self.station = station
        self.image = image

    def behind(self, mine, yours, stream):
        """What both come to, and whether both give the same meanwhile."""
        silent = ("",) * len(self.old.exits)
        one = slow_finish(self.old, (*mine, stream, silent))
        other = slow_finish(self.new, (*yours, stream, silent))
        return (one[:2], other[:2]), one[3] == other[3]

    def from_moment(self, moment):
        return self.behind(moment, at_image(moment, self.station, self.image), "")

    def is_kept_paper(self, moments, value):
        """By the words of the point, for a list of tuples of two (standings, contents)."""
        if len(set(value)) < len(value) or any(len(text) > 3 for pair in value for _,
                                               contents in pair for text in contents):
            return False
        asked = [self.from_moment(moment) for moment in moments]
        asked += [self.behind(*pair, sign) for pair in value for sign in "01"]
        return all(same and pair in value for pair, same in asked)

    def pairs(self, moments):
        """All pairs that are come to as long as the texts are the same, and no pipe of the second yard has too much."""
        found = []
        waiting = [self.from_moment(moment) for moment in moments]
        while waiting:
            pair, same = waiting.pop()
            if same and pair not in found and all(len(text) <= 3 for text in pair[1][1]):
                found.append(pair)
                waiting += [self.behind(*pair, sign) for sign in "01"]
        return found

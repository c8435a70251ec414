"""Stations that are put in the place of others amid a run, and the standings at which nobody can tell."""

from flowyard.basics import is_below, is_count, is_list, is_stream, is_tuple_of
from flowyard.checks import check_count, check_station, check_stream
from flowyard.errors import InvalidImage, InvalidNew, InvalidNumber, InvalidStanding
from flowyard.looking import MOST_WAITING, look_through
from flowyard.runs import begin_of, walk_along
from flowyard.swapping import Stops, Swap, look_at_pairs, states_behind_beats
from flowyard.walks import Walk, beats_of, end_of, wired
from flowyard.yards import Station, put_at, with_station

_MOST_BEATS = 20000


def exchanged(yard, station, new, image=0):
    check_station(yard, station)
    check_new(yard, station, new)
    check_image(new, image)
    return with_station(yard, station, new, image)


def swapped_end(yard, station, new, stream, number, image):
    check_station(yard, station)
    check_new(yard, station, new)
    check_stream(stream)
    check_count(number)
    check_image(new, image)
    if number > _beats_in_all(yard, station, stream):
        raise InvalidNumber(number)
    state = _state_behind(yard, station, stream, number)
    return _end_of_swap(yard, station, new, state, image)


def moments(yard, station, standing):
    check_station(yard, station)
    _check_standing(yard, station, standing)
    return Stops(yard, look_through(yard), station).moments(standing)


def images(yard, station, new):
    check_station(yard, station)
    check_new(yard, station, new)
    stops = Stops(yard, look_through(yard), station)
    swaps = [Swap(yard, station, new, image) for image in range(len(new))]
    found = {}
    for standing in range(len(yard.stations[station])):
        streams = [look_at_pairs(stops, swap, standing)[1] for swap in swaps]
        found[standing] = [image for image, stream in enumerate(streams) if stream is None]
    return found


def is_kept(yard, station, new, standing, image):
    return kept_paper(yard, station, new, standing, image) is not None


def kept_paper(yard, station, new, standing, image):
    _check_swap(yard, station, new, standing, image)
    pairs, stream = _looked_at(yard, station, new, standing, image)
    if stream is not None:
        return None
    return pairs


def is_kept_paper(yard, station, new, standing, image, value):
    _check_swap(yard, station, new, standing, image)
    looked = look_through(yard)
    swap = Swap(yard, station, new, image)
    if not is_list(value) or not all([swap.is_pair(pair) for pair in value]):
        return False
    known = {pair: True for pair in value}
    if len(known) < len(value):
        return False
    if not all([swap.from_moment(moment) in known for moment in Stops(yard, looked, station).moments(standing)]):
        return False
    return all([swap.from_pair(pair, sign) in known for pair in value for sign in "01"])


def least_break(yard, station, new, standing, image):
    _check_swap(yard, station, new, standing, image)
    _, stream = _looked_at(yard, station, new, standing, image)
    if stream is None:
        return None
    state = begin_of(yard, stream)
    number = 0
    for standings, _, _, _ in states_behind_beats(wired(yard), station, state):
        if standings[station] == standing and _is_broken(yard, station, new, image, stream, number):
            break
        number += 1
    return (stream, number)


def is_break(yard, station, new, standing, image, value):
    _check_swap(yard, station, new, standing, image)
    look_through(yard)
    if not is_tuple_of(value, 2) or not is_stream(value[0]) or not is_count(value[1]):
        return False
    stream, number = value
    if number > _beats_in_all(yard, station, stream):
        return False
    is_broken = _is_broken(yard, station, new, image, stream, number)
    standings, _, _, _ = _state_behind(yard, station, stream, number)
    return is_broken and standings[station] == standing


def check_new(yard, station, new):
    there = yard.stations[station]
    if not isinstance(new, Station) or new.ins != there.ins or new.outs != there.outs:
        raise InvalidNew(new)


def check_image(new, image):
    if not is_below(image, len(new)):
        raise InvalidImage(image)


def _check_standing(yard, station, standing):
    if not is_below(standing, len(yard.stations[station])):
        raise InvalidStanding(standing)


def _check_swap(yard, station, new, standing, image):
    check_station(yard, station)
    check_new(yard, station, new)
    _check_standing(yard, station, standing)
    check_image(new, image)


def _looked_at(yard, station, new, standing, image):
    stops = Stops(yard, look_through(yard), station)
    return look_at_pairs(stops, Swap(yard, station, new, image), standing)


def _beats_in_all(yard, station, stream):
    """How many beats of the station a full run has, which may itself have too many."""
    return beats_of(wired(yard), begin_of(yard, stream), station)


def _state_behind(yard, station, stream, number):
    """The state at which the first full run has just done so many beats of the station."""
    run = walk_along(yard, stream, None).finish(_MOST_BEATS)
    walk = walk_along(yard, stream, None)
    done = 0
    for each in run:
        if done == number:
            break
        walk.do(each)
        if each == station:
            done += 1
    return walk.state_now()


def _end_of_swap(yard, station, new, state, image):
    standings, contents, rest, flows = state
    swapped = (put_at(standings, station, image), contents, rest, flows)
    walk = Walk(wired(with_station(yard, station, new, image)), swapped)
    walk.finish(_MOST_BEATS)
    return walk.state_now()


def _is_broken(yard, station, new, image, stream, number):
    """Whether the END of the swap has other flows than the END without it, or too much waits there in a pipe."""
    state = _state_behind(yard, station, stream, number)
    _, contents, _, flows = _end_of_swap(yard, station, new, state, image)
    _, _, _, wanted = end_of(wired(yard), begin_of(yard, stream))
    return flows != wanted or any([len(text) > MOST_WAITING for text in contents])

"""Stations that are put in the place of others amid a run, and the standings at which nobody can tell."""

from flowyard.basics import is_below, is_count, is_list, is_stream, is_tuple_of
from flowyard.checks import check_count, check_station, check_stream
from flowyard.errors import InvalidImage, InvalidNew, InvalidNumber, InvalidStanding
from flowyard.looking import MOST_WAITING, look_through
from flowyard.runs import begin_of, walk_along
from flowyard.swapping import Stops, Swap, look_at_pairs, states_behind_beats
from flowyard.walks import Walk, beats_of, end_of, wired
from flowyard.yards import Station, put_at, with_station

_MOST_BEATS = 20000


def exchanged(yard, station, new, image=0):
    check_station(yard, station)
    check_new(yard, station, new)
    check_image(new, image)
    return with_station(yard, station, new, image)


def swapped_end(yard, station, new, stream, number, image):
    check_station(yard, station)
    check_new(yard, station, new)
    check_stream(stream)
    check_count(number)
    check_image(new, image)
    if number > _beats_in_all(yard, station, stream):
        raise InvalidNumber(number)
    _, behind = _swapped(yard, station, new, stream, number, image)
    return behind


def moments(yard, station, standing):
    check_station(yard, station)
    _check_standing(yard, station, standing)
    return Stops(yard, look_through(yard), station).moments(standing)


def images(yard, station, new):
    check_station(yard, station)
    check_new(yard, station, new)
    stops = Stops(yard, look_through(yard), station)
    swaps = [Swap(yard, station, new, image) for image in range(len(new))]
    found = {}
    for standing in range(len(yard.stations[station])):
        streams = [look_at_pairs(stops, swap, standing)[1] for swap in swaps]
        found[standing] = [image for image, stream in enumerate(streams) if stream is None]
    return found


def is_kept(yard, station, new, standing, image):
    return kept_paper(yard, station, new, standing, image) is not None


def kept_paper(yard, station, new, standing, image):
    _check_swap(yard, station, new, standing, image)
    pairs, stream = _looked_at(yard, station, new, standing, image)
    if stream is not None:
        return None
    return pairs


def is_kept_paper(yard, station, new, standing, image, value):
    _check_swap(yard, station, new, standing, image)
    looked = look_through(yard)
    swap = Swap(yard, station, new, image)
    if not is_list(value) or not all([swap.is_pair(pair) for pair in value]):
        return False
    known = {pair: True for pair in value}
    if len(known) < len(value):
        return False
    if not all([swap.from_moment(moment) in known for moment in Stops(yard, looked, station).moments(standing)]):
        return False
    return all([swap.from_pair(pair, sign) in known for pair in value for sign in "01"])


def least_break(yard, station, new, standing, image):
    _check_swap(yard, station, new, standing, image)
    _, stream = _looked_at(yard, station, new, standing, image)
    if stream is None:
        return None
    start = begin_of(yard, stream)
    wanted = end_of(wired(yard), start)[3]
    wiring = wired(with_station(yard, station, new, image))
    number = 0
    for state in states_behind_beats(wired(yard), station, start):
        if state[0][station] == standing and _is_broken(end_of(wiring, _at_image(state, station, image)), wanted):
            break
        number += 1
    # This raises the error that too many beats bring.
    _swapped(yard, station, new, stream, number, image)
    return (stream, number)


def is_break(yard, station, new, standing, image, value):
    _check_swap(yard, station, new, standing, image)
    look_through(yard)
    if not is_tuple_of(value, 2) or not is_stream(value[0]) or not is_count(value[1]):
        return False
    stream, number = value
    if number > _beats_in_all(yard, station, stream):
        return False
    state, behind = _swapped(yard, station, new, stream, number, image)
    wanted = end_of(wired(yard), begin_of(yard, stream))[3]
    return state[0][station] == standing and _is_broken(behind, wanted)


def check_new(yard, station, new):
    there = yard.stations[station]
    if not isinstance(new, Station) or new.ins != there.ins or new.outs != there.outs:
        raise InvalidNew(new)


def check_image(new, image):
    if not is_below(image, len(new)):
        raise InvalidImage(image)


def _check_standing(yard, station, standing):
    if not is_below(standing, len(yard.stations[station])):
        raise InvalidStanding(standing)


def _check_swap(yard, station, new, standing, image):
    check_station(yard, station)
    check_new(yard, station, new)
    _check_standing(yard, station, standing)
    check_image(new, image)


def _looked_at(yard, station, new, standing, image):
    stops = Stops(yard, look_through(yard), station)
    return look_at_pairs(stops, Swap(yard, station, new, image), standing)


def _beats_in_all(yard, station, stream):
    """How many beats of the station a full run has, which may itself have too many."""
    return beats_of(wired(yard), begin_of(yard, stream), station)


def _swapped(yard, station, new, stream, number, image):
    """The state at which the first full run has just done so many beats of the station, and the END of the swap there.

    TooMany if that run, or what is done behind the swap, has too many beats.
    """
    run = walk_along(yard, stream, None).finish(_MOST_BEATS)
    walk = walk_along(yard, stream, None)
    done = 0
    for each in run:
        if done == number:
            break
        walk.do(each)
        if each == station:
            done += 1
    state = walk.state_now()
    behind = Walk(wired(with_station(yard, station, new, image)), _at_image(state, station, image))
    behind.finish(_MOST_BEATS)
    return state, behind.state_now()


def _at_image(state, station, image):
    """The state at which the station stands at the image."""
    return (put_at(state[0], station, image), *state[1:])


def _is_broken(behind, wanted):
    """Whether a state behind a swap has other flows than the wanted ones, or too much waits there in a pipe."""
    _, contents, _, given = behind
    return given != wanted or any([len(text) > MOST_WAITING for text in contents])

"""How much room the pipes need, so that no beat lacks it at last."""

from flowyard.basics import is_list, is_stream, is_text_up_to, is_tuple_of
from flowyard.checks import MOST_SIZE, are_standings, check_state, check_stream, check_told_sizes
from flowyard.errors import NotEnough, TooMany
from flowyard.runs import first_wrong, walk_along
from flowyard.sizing import Sized, all_sizes, least_among, one_less_at
from flowyard.walks import Walk, wired

_MOST_BEATS = 20000
_MOST_TOLD_BEATS = 4000
_MOST_PIPES = 4
_MOST_STATES = 2000


def lacking(yard, state, sizes):
    check_state(yard, state)
    check_told_sizes(yard, sizes)
    return Walk(wired(yard), state, sizes).lacking_now()


def are_enough_for(yard, sizes, stream):
    check_stream(stream)
    check_told_sizes(yard, sizes)
    walk_along(yard, stream, None).finish(_MOST_BEATS)
    return not stands_still(yard, stream, sizes)


def are_enough(yard, sizes):
    return _looked_through(yard, sizes).still is None


def room_list(yard, sizes):
    sized = _looked_through(yard, sizes)
    if sized.still is not None:
        return None
    return sized.rests


def still_stream(yard, sizes):
    return _looked_through(yard, sizes).still


def standstill(yard, sizes):
    stream = _looked_through(yard, sizes).still
    if stream is None:
        return None
    return (stream, walk_along(yard, stream, sizes).finish(_MOST_TOLD_BEATS))


def is_room_list(yard, sizes, value):
    check_told_sizes(yard, sizes)
    if not is_list(value) or not all([_is_place(yard, place) for place in value]):
        return False
    known = {place: True for place in value}
    if len(known) < len(value):
        return False
    wiring = wired(yard)
    starts = [(yard.begin, "")] + [(place, sign) for place in value for sign in "01"]
    silent = ("",) * len(yard.exits)
    return all([_comes_within(Walk(wiring, (*place, sign, silent), sizes), known) for place, sign in starts])


def is_standstill(yard, sizes, value):
    check_told_sizes(yard, sizes)
    if not is_tuple_of(value, 2) or not is_stream(value[0]) or not is_list(value[1]):
        return False
    walk = walk_along(yard, value[0], sizes)
    if first_wrong(walk, yard, value[1]) is not None:
        return False
    return walk.can_do_now() == [] and walk.lacking_now() != []


def least_sizes(yard):
    pipes = len(yard.pipes)
    if pipes > _MOST_PIPES:
        raise TooMany("pipes", _MOST_PIPES)
    # Lesser sizes have no other rests and no longer runs than the greatest ones: so these tell all errors.
    if Sized(yard, (MOST_SIZE,) * pipes, _MOST_BEATS).still is not None:
        return []
    return least_among([sizes for sizes in all_sizes(pipes) if _are_enough(yard, sizes)])


def spare(yard, sizes):
    sized = _looked_through(yard, sizes)
    if sized.still is not None:
        raise NotEnough(sized.still)
    above = [pipe for pipe, size in enumerate(sizes) if size > 1]
    return [pipe for pipe in above if _are_enough(yard, one_less_at(sizes, pipe))]


def fullest(yard, sizes):
    check_told_sizes(yard, sizes)
    wiring = wired(yard)
    silent = ("",) * len(yard.exits)
    met = {yard.begin: True}
    waiting = [yard.begin]
    while waiting != []:
        rest = waiting.pop()
        for sign in "01":
            for behind in _one_beat_on(wiring, (*rest, sign, silent), sizes):
                if behind not in met:
                    met[behind] = True
                    waiting.append(behind)
        if len(met) > _MOST_STATES:
            raise TooMany("states", _MOST_STATES)
    return tuple([max([len(contents[pipe]) for _, contents in met]) for pipe in range(len(yard.pipes))])


def stands_still(yard, stream, sizes):
    """Whether some beat lacks room behind the full runs of the stream."""
    walk = walk_along(yard, stream, sizes)
    walk.finish(None)
    return walk.lacking_now() != []


def _looked_through(yard, sizes):
    check_told_sizes(yard, sizes)
    return Sized(yard, sizes, _MOST_BEATS)


def _are_enough(yard, sizes):
    return Sized(yard, sizes, _MOST_BEATS).still is None


def _is_place(yard, value):
    if not is_tuple_of(value, 2) or not are_standings(yard.stations, value[0]):
        return False
    contents = value[1]
    return is_tuple_of(contents, len(yard.pipes)) and all([is_text_up_to(text, MOST_SIZE) for text in contents])


def _comes_within(walk, known):
    """Whether the full run takes all that comes, comes to a known place, and no beat lacks room there."""
    try:
        walk.finish(_MOST_BEATS)
    except TooMany:
        return False
    standings, contents, left, _ = walk.state_now()
    return left == "" and (standings, contents) in known and walk.lacking_now() == []


def _one_beat_on(wiring, state, sizes):
    """Where the yard stands, and what waits in it, behind each beat that can be done at the state."""
    found = []
    for station in Walk(wiring, state, sizes).can_do_now():
        walk = Walk(wiring, state, sizes)
        walk.do(station)
        standings, contents, _, _ = walk.state_now()
        found.append((standings, contents))
    return found

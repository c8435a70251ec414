"""States, beats, runs and the END to which all full runs of a stream come."""

from flowyard.basics import is_below, is_list
from flowyard.checks import check_sizes, check_state, check_station, check_stream
from flowyard.errors import CannotBeDone, InvalidRun
from flowyard.walks import Walk, wired

_MOST_BEATS = 20000


def begin_of(yard, stream):
    check_stream(stream)
    standings, contents = yard.begin
    return (standings, contents, stream, ("",) * len(yard.exits))


def can_be_done(yard, state, sizes=None):
    check_state(yard, state)
    check_sizes(yard, sizes)
    return Walk(wired(yard), state, sizes).can_do_now()


def done(yard, state, station, sizes=None):
    check_state(yard, state)
    check_sizes(yard, sizes)
    check_station(yard, station)
    walk = Walk(wired(yard), state, sizes)
    if not walk.can_do(station):
        raise CannotBeDone(station)
    walk.do(station)
    return walk.state_now()


def is_run(yard, stream, value, sizes=None):
    walk = walk_from_begin(yard, stream, sizes)
    return is_list(value) and first_wrong(walk, yard, value) is None


def state_behind(yard, stream, run, sizes=None):
    return walk_behind(yard, stream, run, sizes).state_now()


def is_full(yard, stream, run, sizes=None):
    return walk_behind(yard, stream, run, sizes).can_do_now() == []


def full_run(yard, stream, sizes=None):
    # Each run is the beginning of a full one, and all are as long: so the first one of them is
    # that which does always the first beat that can be done.
    return walk_from_begin(yard, stream, sizes).finish(_MOST_BEATS)


def end(yard, stream, sizes=None):
    walk = walk_from_begin(yard, stream, sizes)
    walk.finish(_MOST_BEATS)
    return walk.state_now()


def flows(yard, stream):
    return list(end(yard, stream)[3])


def walk_from_begin(yard, stream, sizes):
    check_stream(stream)
    check_sizes(yard, sizes)
    return walk_along(yard, stream, sizes)


def walk_along(yard, stream, sizes):
    """As above, of a stream of any length, which is not checked."""
    return Walk(wired(yard), (*yard.begin, stream, ("",) * len(yard.exits)), sizes)


def walk_behind(yard, stream, run, sizes):
    """A walk that stands behind the run; InvalidRun unless it is one."""
    walk = walk_from_begin(yard, stream, sizes)
    if not is_list(run):
        raise InvalidRun(None)
    position = first_wrong(walk, yard, run)
    if position is not None:
        raise InvalidRun(position)
    return walk


def first_wrong(walk, yard, run):
    """The place of the first element that cannot be done; the walk stands there, or behind all."""
    for position, station in enumerate(run):
        if not is_below(station, len(yard)) or not walk.can_do(station):
            return position
        walk.do(station)
    return None

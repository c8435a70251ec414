"""When things happen in a yard, of which each beat begins as soon as it can."""

from flowyard.basics import is_count
from flowyard.checks import check_count, check_exit, check_sign, check_sizes, check_stream, is_beat
from flowyard.errors import NotEnough
from flowyard.moments import Clock, links_of_step, slots_at
from flowyard.orders import numbered
from flowyard.room import stands_still
from flowyard.runs import walk_along

_MOST_BEATS = 2000


def times(yard, stream, apart, sizes=None):
    _check_told(yard, stream, apart, sizes)
    rows, _ = _timed(yard, stream, apart, sizes)
    return sorted([(begin, over, beat) for begin, over, beat, _ in rows])


def over_at(yard, stream, apart, sizes=None):
    _check_told(yard, stream, apart, sizes)
    rows, _ = _timed(yard, stream, apart, sizes)
    return max([0] + [over for _, over, _, _ in rows])


def given_at(yard, stream, apart, outlet, sizes=None):
    _check_told(yard, stream, apart, sizes)
    check_exit(yard, outlet)
    rows, _ = _timed(yard, stream, apart, sizes)
    wanted = 1 + len(yard.pipes) + outlet
    return [(over, text) for _, over, _, gives in rows for line, text in gives if line == wanted]


def is_timing(yard, stream, apart, value, sizes=None):
    _check_told(yard, stream, apart, sizes)
    beats = _beats(yard, stream, sizes)
    if not isinstance(value, dict) or len(value) != len(beats):
        return False
    if not all([is_beat(yard, beat) and is_count(begin) for beat, begin in value.items()]):
        return False
    if not all([beat in value for beat in beats]):
        return False
    clock = _clock_for(yard, stream, apart, sizes)
    for beat in beats:
        asked, _, _ = clock.do(beat[0], {None: value[beat]})
        if value[beat] < asked[None]:
            return False
    return True


def lateness(yard, stream, apart, sizes=None):
    _check_told(yard, stream, apart, sizes)
    _, clock = _timed(yard, stream, apart, sizes)
    _check_enough(yard, stream, sizes)
    coming = len(stream) * apart
    return {slot: moment[None] - coming for slot, moment in clock.slots(len(yard.pipes)).items()}


def links(yard, stream, sign, sizes=None):
    check_stream(stream)
    check_sizes(yard, sizes)
    check_sign(sign)
    _beats(yard, stream + sign, sizes)
    _check_enough(yard, stream, sizes)
    _check_enough(yard, stream + sign, sizes)
    walk = walk_along(yard, stream, sizes)
    walk.finish(None)
    standings, contents, _, _ = walk.state_now()
    slots, _ = links_of_step(yard, (standings, contents), sign, sizes)
    found = [(slot, later, ticks) for later, moment in slots.items() for slot, ticks in moment.items()]
    of_coming = [link for link in found if link[0] is None]
    return sorted(of_coming) + sorted([link for link in found if link[0] is not None])


def _check_told(yard, stream, apart, sizes):
    check_stream(stream)
    check_sizes(yard, sizes)
    check_count(apart)


def _check_enough(yard, stream, sizes):
    if stands_still(yard, stream, sizes):
        raise NotEnough(stream)


def _beats(yard, stream, sizes):
    """All beats that can be done, each behind those that it needs."""
    return numbered(walk_along(yard, stream, sizes).finish(_MOST_BEATS))


def _clock_for(yard, stream, apart, sizes):
    slots = {slot: {None: 0} for slot in slots_at(yard, yard.begin[1], sizes)}
    comings = [{None: number * apart} for number in range(len(stream))]
    return Clock(walk_along(yard, stream, sizes), sizes, slots, comings)


def _timed(yard, stream, apart, sizes):
    """For each beat its begin, its end, itself and what it gives; and the clock behind all of them."""
    clock = _clock_for(yard, stream, apart, sizes)
    rows = []
    for beat in _beats(yard, stream, sizes):
        begin, over, gives = clock.do(beat[0])
        rows.append((begin[None], over[None], beat, gives))
    return rows, clock

"""Why a yard with sizes stands still: beats that wait for one another, or for ever."""

from flowyard.basics import is_below, is_list, is_tuple_of
from flowyard.checks import check_beat, check_stream, check_told_sizes, is_beat
from flowyard.errors import TooMany, UnknownBeat
from flowyard.laps import any_lap
from flowyard.orders import needs_by_beat, numbered
from flowyard.room import stands_still
from flowyard.runs import walk_along
from flowyard.sizing import all_sizes, least_among

_MOST_BEATS = 60
_MOST_PIPES = 4


def waits_for(yard, sizes, stream, beat):
    waits, _ = _waits_of(yard, sizes, stream, [beat])
    return waits[beat]


def stays_for(yard, sizes, stream, beat):
    _, stays = _waits_of(yard, sizes, stream, [beat])
    return stays[beat]


def reason(yard, sizes, stream):
    waits, stays = _waits_of(yard, sizes, stream, [])
    for beat, pipes in stays.items():
        if pipes != []:
            return ("stays", beat, pipes[0])
    lap = any_lap({beat: [(None, other) for other in others] for beat, others in waits.items()})
    if lap is None:
        return None
    return ("ring", [beat for beat, _ in lap])


def is_reason(yard, sizes, stream, value):
    waits, stays = _waits_of(yard, sizes, stream, [])
    if is_tuple_of(value, 2) and _is_word(value[0], "ring"):
        return _is_ring(yard, waits, value[1])
    if is_tuple_of(value, 3) and _is_word(value[0], "stays"):
        pipes = len(yard.pipes)
        return is_beat(yard, value[1]) and is_below(value[2], pipes) and value[2] in stays.get(value[1], [])
    return False


def least_for(yard, stream):
    check_stream(stream)
    pipes = len(yard.pipes)
    if pipes > _MOST_PIPES:
        raise TooMany("pipes", _MOST_PIPES)
    walk_along(yard, stream, None).finish(_MOST_BEATS)
    return least_among([sizes for sizes in all_sizes(pipes) if not stands_still(yard, stream, sizes)])


def _is_word(value, word):
    return isinstance(value, str) and value == word


def _is_ring(yard, waits, value):
    if not is_list(value) or len(value) < 2 or not all([is_beat(yard, beat) for beat in value]):
        return False
    if len(set(value)) < len(value):
        return False
    return all([later in waits.get(beat, []) for beat, later in zip(value, [*value[1:], value[0]])])


def _waits_of(yard, sizes, stream, told):
    """For each beat those for which it waits, and the pipes at which it waits for ever."""
    check_stream(stream)
    check_told_sizes(yard, sizes)
    for beat in told:
        check_beat(yard, beat)
    order = needs_by_beat(yard, stream, None, _MOST_BEATS)
    for beat in told:
        if beat not in order:
            raise UnknownBeat(beat)
    takers, counts = _put_and_taken(yard, stream)
    waits = {}
    stays = {}
    for beat, needed in order.items():
        # The place among the takers of the sign that must have gone, for each pipe where one must.
        gone = [(pipe, many - sizes[pipe] - 1) for pipe, many in counts[beat] if many > sizes[pipe]]
        makers = [takers[pipe][place] for pipe, place in gone if place < len(takers[pipe])]
        waits[beat] = sorted({other for other in [*needed, *makers]})
        stays[beat] = sorted([pipe for pipe, place in gone if place >= len(takers[pipe])])
    return waits, stays


def _put_and_taken(yard, stream):
    """For each pipe the beats that take from it, and for each beat how many signs a pipe had got with its own."""
    takers = [[] for _ in yard.pipes]
    many = [len(text) for text in yard.begin[1]]
    counts = {}
    walk = walk_along(yard, stream, None)
    for beat in numbered(walk_along(yard, stream, None).finish(_MOST_BEATS)):
        counts[beat] = []
        lines, gives, _ = walk.do(beat[0])
        for line in lines:
            if line > 0:
                takers[line - 1].append(beat)
        for line, text in gives:
            if line <= len(many):
                many[line - 1] += len(text)
                counts[beat].append((line - 1, many[line - 1]))
    return takers, counts

"""Rests: where a yard stands, and what waits in it, when all beats are done."""

from flowyard.basics import is_from_to, is_list, is_stream
from flowyard.checks import check_sign, check_stream
from flowyard.errors import InvalidNumber
from flowyard.looking import MOST_WAITING, Looked, check_rest, look_through
from flowyard.walks import Walk, end_of, wired
from flowyard.yards import is_begin


def rests(yard):
    return list(look_through(yard).rests)


def rest_behind(yard, stream):
    check_stream(stream)
    rest, _ = look_through(yard).led(0, stream)
    return rest


def step(yard, rest, sign):
    check_sign(sign)
    looked = look_through(yard)
    check_rest(looked, rest)
    return looked.steps[rest][int(sign)]


def stream_to(yard, rest):
    looked = look_through(yard)
    check_rest(looked, rest)
    return looked.streams[rest]


def is_held(yard, number):
    return overfilling(yard, number) is None


def overfilling(yard, number):
    _check_held_number(number)
    return Looked(yard, number).overfilling


def is_held_paper(yard, number, value):
    _check_held_number(number)
    if not is_list(value) or not all([is_begin(yard.stations, yard.pipes, rest) for rest in value]):
        return False
    known = {rest: True for rest in value}
    wiring = wired(yard)
    if len(known) < len(value) or _rest_behind(wiring, yard, yard.begin, "") not in known:
        return False
    return all([_is_kept_within(wiring, yard, number, rest, known) for rest in value])


def is_overfilling(yard, number, value):
    _check_held_number(number)
    if not is_stream(value):
        return False
    return not _has_at_most(_rest_behind(wired(yard), yard, yard.begin, value), number)


def _check_held_number(number):
    if not is_from_to(number, 0, MOST_WAITING):
        raise InvalidNumber(number)


def _is_kept_within(wiring, yard, number, rest, known):
    """Whether a rest of a held paper is as it must be, and leads by both signs to known ones."""
    if not _has_at_most(rest, number) or Walk(wiring, _state_at(yard, rest, "")).can_do_now() != []:
        return False
    return all([_rest_behind(wiring, yard, rest, sign) in known for sign in "01"])


def _has_at_most(rest, number):
    return all([len(text) <= number for text in rest[1]])


def _rest_behind(wiring, yard, rest, stream):
    standings, contents, _, _ = end_of(wiring, _state_at(yard, rest, stream))
    return (standings, contents)


def _state_at(yard, rest, stream):
    return (*rest, stream, ("",) * len(yard.exits))

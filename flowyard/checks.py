"""The errors that belong to parameters of these names everywhere."""

from flowyard.basics import (
    is_below,
    is_count,
    is_from_to,
    is_integer,
    is_lap,
    is_sign,
    is_stream,
    is_text,
    is_tuple_of,
)
from flowyard.errors import (
    InvalidBeat,
    InvalidExit,
    InvalidLap,
    InvalidNumber,
    InvalidPipe,
    InvalidSign,
    InvalidSizes,
    InvalidState,
    InvalidStation,
    InvalidStream,
    InvalidText,
)

MOST_SIZE = 3


def check_station(yard, station):
    if not is_below(station, len(yard)):
        raise InvalidStation(station)


def check_exit(yard, outlet):
    if not is_below(outlet, len(yard.exits)):
        raise InvalidExit(outlet)


def check_stream(stream):
    if not is_stream(stream):
        raise InvalidStream(stream)


def check_text(text):
    if not is_text(text):
        raise InvalidText(text)


def check_lap(lap):
    if not is_lap(lap):
        raise InvalidLap(lap)


def check_sign(sign):
    if not is_sign(sign):
        raise InvalidSign(sign)


def check_count(number):
    if not is_count(number):
        raise InvalidNumber(number)


def check_sizes(yard, sizes):
    if sizes is not None and not are_sizes(yard, sizes):
        raise InvalidSizes(sizes)


def check_told_sizes(yard, sizes):
    """Where sizes must be told, so that None is none."""
    if not are_sizes(yard, sizes):
        raise InvalidSizes(sizes)


def check_state(yard, state):
    if not _is_state(yard, state):
        raise InvalidState(state)


def check_beat(yard, beat):
    if not is_beat(yard, beat):
        raise InvalidBeat(beat)


def check_pipe(yard, pipe):
    # False would be found as 0 among the pipes.
    if not is_tuple_of(pipe, 4) or not all([is_integer(number) for number in pipe]) or pipe not in yard.pipes:
        raise InvalidPipe(pipe)


def is_beat(yard, value):
    """Whether it is a tuple that tells a beat of the yard, which need not ever be done."""
    return is_tuple_of(value, 2) and is_below(value[0], len(yard)) and is_count(value[1])


def are_sizes(yard, value):
    """Whether it is a tuple of sizes for the pipes of the yard, which None is not."""
    if not is_tuple_of(value, len(yard.pipes)):
        return False
    return all([is_from_to(size, 1, MOST_SIZE) for size in value])


def are_standings(stations, value):
    """Whether it is a tuple of a standing for each of the stations."""
    if not is_tuple_of(value, len(stations)):
        return False
    return all([is_below(standing, len(station)) for standing, station in zip(value, stations)])


def _is_state(yard, value):
    if not is_tuple_of(value, 4):
        return False
    standings, contents, rest, flows = value
    return (
        are_standings(yard.stations, standings)
        and are_texts(contents, len(yard.pipes))
        and is_text(rest)
        and are_texts(flows, len(yard.exits))
    )


def are_texts(value, number):
    """Whether it is a tuple of so many texts."""
    return is_tuple_of(value, number) and all([is_text(text) for text in value])

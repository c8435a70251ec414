"""Two stations that are joined closely, fused to one."""

from flowyard.checks import check_pipe
from flowyard.errors import CannotFuse, InvalidStandings
from flowyard.yards import Station, contents_by_pipe, yard_of


def can_fuse(yard, pipe):
    check_pipe(yard, pipe)
    return _joint_station(yard, pipe) is not None


def joint_standings(yard, pipe):
    check_pipe(yard, pipe)
    if not _joins_closely(yard, pipe):
        return None
    met, _ = _joint(yard, pipe)
    return met


def fused_at(yard, pipe):
    check_pipe(yard, pipe)
    station = _joint_station(yard, pipe)
    if station is None:
        raise CannotFuse(pipe)
    first, second = pipe[0], pipe[2]
    stations = yard.stations
    stations[second] = station
    del stations[first]
    standings = list(yard.begin[0])
    standings[second] = 0
    del standings[first]
    numbers = [number - 1 if number > first else number for number in range(len(yard))]
    numbers[first] = second - 1
    contents = contents_by_pipe(yard, numbers)
    del contents[(second - 1, 0, second - 1, 0)]
    return yard_of(stations, tuple(standings), contents)


def fused(yard):
    pipe = _first_to_fuse(yard)
    while pipe is not None:
        yard = fused_at(yard, pipe)
        pipe = _first_to_fuse(yard)
    return yard


def _first_to_fuse(yard):
    for pipe in yard.pipes:
        if can_fuse(yard, pipe):
            return pipe
    return None


def _joins_closely(yard, pipe):
    first, second = pipe[0], pipe[2]
    empty = yard.begin[1][yard.pipes.index(pipe)] == ""
    return empty and yard.stations[first].outs == 1 and yard.stations[second].ins == 1


def _joint_station(yard, pipe):
    """The one station in the place of both; None if the pipe cannot be fused."""
    if not _joins_closely(yard, pipe):
        return None
    first, second = pipe[0], pipe[2]
    _, standings = _joint(yard, pipe)
    # The limits of standings, signs and ticks are just those that a station has.
    try:
        return Station(yard.stations[first].ins, yard.stations[second].outs, standings)
    except InvalidStandings:
        return None


def _joint(yard, pipe):
    """The joint standings as they are come to, and what is read and which rows there are at each."""
    first, second = yard.stations[pipe[0]], yard.stations[pipe[2]]
    met = [(yard.begin[0][pipe[0]], yard.begin[0][pipe[2]])]
    standings = []
    while len(standings) < len(met):
        ahead, behind = met[len(standings)]
        rows = []
        for row in first.standings()[ahead][1]:
            gives, goal, ticks = _row_through(row, second, behind)
            if goal not in met:
                met.append(goal)
            rows.append((gives, met.index(goal), ticks))
        standings.append((first.reads(ahead), rows))
    return met, standings


def _row_through(row, second, behind):
    """The row with what the second station makes of the signs that it gives, done all at once."""
    given, ahead, ticks = row
    gives = ("",) * second.outs
    for sign in given[0]:
        more, behind, longer = second.row(behind, sign)
        gives = tuple([text + further for text, further in zip(gives, more)])
        ticks = ticks + longer
    return gives, (ahead, behind), ticks

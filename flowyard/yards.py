"""Stations, and yards of stations that are joined by pipes."""

from flowyard.basics import is_below, is_from_to, is_integer, is_list, is_text_up_to, is_tuple_of
from flowyard.checks import are_standings, check_exit
from flowyard.errors import (
    InvalidBegin,
    InvalidIns,
    InvalidOrder,
    InvalidOuts,
    InvalidPipes,
    InvalidStanding,
    InvalidStandings,
    InvalidStations,
    InvalidText,
    TooMany,
)

MOST_STANDINGS = 4
_MOST_TICKS = 9
_MOST_GIVEN = 2
_MOST_WAITING = 3


class Station:
    """A station. What it was made of is kept in tuples, so that it never changes."""

    def __init__(self, ins, outs, standings):
        if not is_from_to(ins, 1, 2):
            raise InvalidIns(ins)
        if not is_from_to(outs, 1, 2):
            raise InvalidOuts(outs)
        if not is_list(standings) or not 1 <= len(standings) <= MOST_STANDINGS:
            raise InvalidStandings(None)
        for position, standing in enumerate(standings):
            if not _is_standing(standing, ins, outs, len(standings)):
                raise InvalidStandings(position)
        self._ins = ins
        self._outs = outs
        self._standings = tuple([(reads, tuple(rows)) for reads, rows in standings])

    @property
    def ins(self):
        return self._ins

    @property
    def outs(self):
        return self._outs

    def standings(self):
        return [(reads, list(rows)) for reads, rows in self._standings]

    def reads(self, standing):
        if not is_below(standing, len(self)):
            raise InvalidStanding(standing)
        return self._standings[standing][0]

    def row(self, standing, signs):
        known = signs_read(self.reads(standing))
        if not isinstance(signs, str) or signs not in known:
            raise InvalidText(signs)
        return self._standings[standing][1][known.index(signs)]

    def __len__(self):
        return len(self._standings)

    def __eq__(self, other):
        return (
            isinstance(other, Station)
            and self._ins == other._ins
            and self._outs == other._outs
            and self._standings == other._standings
        )

    def __repr__(self):
        return f"Station({self._ins}, {self._outs}, {self.standings()!r})"


class Yard:
    """A yard. Its pipes are kept sorted, as what is in them is told in this sequence."""

    MOST_STATIONS = 12
    MOST_EXITS = 3

    def __init__(self, stations, pipes, begin=None):
        _check_stations(stations, Yard.MOST_STATIONS)
        _check_pipes(stations, pipes)
        if begin is None:
            begin = ((0,) * len(stations), ("",) * len(pipes))
        if not is_begin(stations, pipes, begin):
            raise InvalidBegin(begin)
        exits = exits_of(stations, pipes)
        if len(exits) > Yard.MOST_EXITS:
            raise TooMany("exits", Yard.MOST_EXITS)
        self._stations = tuple(stations)
        self._pipes = tuple(sorted(pipes))
        self._begin = begin
        self._exits = tuple(exits)

    @property
    def stations(self):
        return list(self._stations)

    @property
    def pipes(self):
        return list(self._pipes)

    @property
    def begin(self):
        return self._begin

    @property
    def exits(self):
        return list(self._exits)

    def begun(self, begin):
        if begin is None:
            raise InvalidBegin(begin)
        return Yard(self._stations, self._pipes, begin)

    def __len__(self):
        return len(self._stations)

    def __eq__(self, other):
        return (
            isinstance(other, Yard)
            and self._stations == other._stations
            and self._pipes == other._pipes
            and self._begin == other._begin
        )

    def __repr__(self):
        return f"Yard({self.stations!r}, {self.pipes!r}, {self.begin!r})"


def signs_read(reads):
    """What a standing that reads so may read, in the sequence of its rows."""
    if reads == "12":
        return ("00", "01", "10", "11")
    return ("0", "1")


def is_row(value, outs, standings):
    """Whether it is a row of a station with so many out-lines and standings."""
    if not is_tuple_of(value, 3):
        return False
    gives, goal, ticks = value
    return (
        is_tuple_of(gives, outs)
        and all([is_text_up_to(text, _MOST_GIVEN) for text in gives])
        and is_below(goal, standings)
        and is_from_to(ticks, 1, _MOST_TICKS)
    )


def with_station(yard, number, station, standing):
    """The yard with another station at this number, which begins at the standing."""
    stations = yard.stations
    stations[number] = station
    return Yard(stations, yard.pipes, (put_at(yard.begin[0], number, standing), yard.begin[1]))


def put_at(row, place, value):
    """The tuple with the value in the place of another one."""
    return (*row[:place], value, *row[place + 1 :])


def with_row(station, standing, signs, row):
    """The station with this row in the place of the one for these signs."""
    standings = station.standings()
    reads, rows = standings[standing]
    rows[signs_read(reads).index(signs)] = row
    return Station(station.ins, station.outs, standings)


def ways_to_read(ins):
    """What a standing may read of so many in-lines."""
    if ins == 2:
        return ("1", "2", "12")
    return ("1",)


def _is_standing(value, ins, outs, standings):
    if not is_tuple_of(value, 2):
        return False
    reads, rows = value
    if not isinstance(reads, str) or reads not in ways_to_read(ins):
        return False
    if not is_list(rows) or len(rows) != len(signs_read(reads)):
        return False
    return all([is_row(row, outs, standings) for row in rows])


def _check_stations(stations, most):
    if not is_list(stations) or not 1 <= len(stations) <= most:
        raise InvalidStations(None)
    for position, station in enumerate(stations):
        if not isinstance(station, Station):
            raise InvalidStations(position)
    if stations[0].ins != 1:
        raise InvalidStations(0)


def _check_pipes(stations, pipes):
    if not is_list(pipes):
        raise InvalidPipes(None)
    out_lines = []
    in_lines = []
    for position, pipe in enumerate(pipes):
        if not is_pipe(stations, pipe) or pipe[:2] in out_lines or pipe[2:] in in_lines:
            raise InvalidPipes(position)
        out_lines.append(pipe[:2])
        in_lines.append(pipe[2:])
    # No in-line has two pipes by now, and the entry none: so it is enough to count them.
    if len(pipes) + 1 < sum([station.ins for station in stations]):
        raise InvalidPipes(None)


def is_pipe(stations, value):
    """Whether it leads from a line of one of the stations to a line of a later one."""
    if not is_tuple_of(value, 4):
        return False
    station, out_line, later, in_line = value
    return (
        is_below(station, len(stations))
        and is_below(out_line, stations[station].outs)
        and is_below(later, len(stations))
        and later > station
        and is_below(in_line, stations[later].ins)
    )


def is_begin(stations, pipes, value):
    if not is_tuple_of(value, 2):
        return False
    standings, contents = value
    return (
        are_standings(stations, standings)
        and is_tuple_of(contents, len(pipes))
        and all([is_text_up_to(text, _MOST_WAITING) for text in contents])
    )


def exits_of(stations, pipes):
    with_pipe = [pipe[:2] for pipe in pipes]
    out_lines = [(number, line) for number, station in enumerate(stations) for line in range(station.outs)]
    return [out_line for out_line in out_lines if out_line not in with_pipe]


def joined(one, outlet, other):
    check_exit(one, outlet)
    if len(one) + len(other) > Yard.MOST_STATIONS:
        raise TooMany("stations", Yard.MOST_STATIONS)
    entry = len(one)
    station, out_line = one.exits[outlet]
    contents = contents_by_pipe(one, list(range(entry)))
    contents[(station, out_line, entry, 0)] = ""
    moved = contents_by_pipe(other, [entry + number for number in range(len(other))])
    for pipe, text in moved.items():
        contents[pipe] = text
    return yard_of(one.stations + other.stations, one.begin[0] + other.begin[0], contents)


def renumbered(yard, order):
    if not _is_order(yard, order):
        raise InvalidOrder(order)
    contents = contents_by_pipe(yard, [order.index(number) for number in range(len(yard))])
    stations = [yard.stations[number] for number in order]
    standings = [yard.begin[0][number] for number in order]
    return yard_of(stations, tuple(standings), contents)


def _is_order(yard, value):
    if not is_list(value) or not all([is_integer(number) for number in value]):
        return False
    if sorted(value) != list(range(len(yard))):
        return False
    return all([value.index(pipe[0]) < value.index(pipe[2]) for pipe in yard.pipes])


def contents_by_pipe(yard, numbers):
    """What is in each pipe at the beginning, the pipes told by the new numbers of the stations."""
    contents = {}
    for (station, out_line, later, in_line), text in zip(yard.pipes, yard.begin[1]):
        contents[(numbers[station], out_line, numbers[later], in_line)] = text
    return contents


def yard_of(stations, standings, contents):
    pipes = sorted(contents)
    return Yard(stations, pipes, (standings, tuple([contents[pipe] for pipe in pipes])))

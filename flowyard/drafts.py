"""Stations and yards as they are read line by line, while their goals may be any COUNTS."""

from flowyard.checks import are_standings
from flowyard.errors import InvalidLines
from flowyard.lines import count_of, counts_of, texts_of
from flowyard.yards import MOST_STANDINGS, Station, Yard, exits_of, is_begin, is_pipe, is_row, signs_read, ways_to_read

_MOST_LINES = 2


class Draft:
    """A station that was read: its numbers of lines, its standings, and the line on which the first of them stands."""

    def __init__(self, told, most_ins):
        numbers = _numbers_of_station(told.words(), most_ins)
        if numbers is None:
            raise InvalidLines(told.number)
        told.go_on()
        self._many_ins, self._many_outs = numbers
        self._line = told.number
        self._read = []
        standing = self._standing_in(told.words())
        while standing is not None:
            self._read.append(standing)
            told.go_on()
            standing = self._standing_in(told.words())
        if self._read == []:
            raise InvalidLines(told.number)

    def bare_station(self):
        """The station with all goals 0, so that it can be one before they are checked."""
        bare = [(reads, [(gives, 0, ticks) for gives, _, ticks in rows]) for reads, rows in self._read]
        return Station(self._many_ins, self._many_outs, bare)

    def station_told(self):
        """The station; InvalidLines with the first line on which a goal is none of its standings."""
        for number, (_, rows) in enumerate(self._read):
            if any([goal >= len(self._read) for _, goal, _ in rows]):
                raise InvalidLines(self._line + number)
        return Station(self._many_ins, self._many_outs, self._read)

    def _standing_in(self, words):
        """What the words tell of a further standing; None if they tell none."""
        if len(self._read) == MOST_STANDINGS or words[:1] != ["standing"] or len(words) < 2:
            return None
        reads = words[1]
        if reads not in ways_to_read(self._many_ins):
            return None
        wide = self._many_outs + 2
        if len(words) != 2 + wide * len(signs_read(reads)):
            return None
        rows = [_row_in(words[at : at + wide]) for at in range(2, len(words), wide)]
        if None in rows:
            return None
        return (reads, rows)


class YardDraft:
    """A yard that was read."""

    def __init__(self, told):
        self._drafts = [Draft(told, 1)]
        while told.words()[:1] == ["station"] and len(self._drafts) < Yard.MOST_STATIONS:
            self._drafts.append(Draft(told, _MOST_LINES))
        self._bare = [draft.bare_station() for draft in self._drafts]
        self._joints = []
        joint = self._pipe_in(told.words())
        while joint is not None:
            self._joints.append(joint)
            told.go_on()
            joint = self._pipe_in(told.words())
        self._stands = self._standings_in(told.words())
        if self._stands is None:
            raise InvalidLines(told.number)
        told.go_on()
        self._waiting = self._contents_in(told.words())
        if self._waiting is None:
            raise InvalidLines(told.number)
        told.go_on()

    def yard_told(self):
        """The yard; InvalidLines as for its stations."""
        return Yard([draft.station_told() for draft in self._drafts], self._joints, (self._stands, self._waiting))

    def _pipe_in(self, words):
        """The pipe that the words tell, behind those ahead; None if they tell none."""
        pipe = counts_of(words[1:])
        if words[:1] != ["pipe"] or not is_pipe(self._bare, pipe):
            return None
        if self._joints != [] and pipe <= self._joints[-1]:
            return None
        if pipe[:2] in [joint[:2] for joint in self._joints] or pipe[2:] in [joint[2:] for joint in self._joints]:
            return None
        return pipe

    def _standings_in(self, words):
        """The standings at which the yard begins; None unless the words tell some, and the pipes are right."""
        if len(self._joints) + 1 < sum([station.ins for station in self._bare]):
            return None
        if len(exits_of(self._bare, self._joints)) > Yard.MOST_EXITS:
            return None
        standings = counts_of(words[1:])
        if words[:1] != ["begin"] or not are_standings(self._bare, standings):
            return None
        return standings

    def _contents_in(self, words):
        contents = texts_of(words[1:])
        if words[:1] != ["contents"] or not is_begin(self._bare, self._joints, (self._stands, contents)):
            return None
        return contents


def _numbers_of_station(words, most_ins):
    """How many in-lines and out-lines the words tell; None if they tell no station."""
    numbers = counts_of(words[1:])
    if words[:1] != ["station"] or numbers is None or len(numbers) != 2:
        return None
    if not 1 <= numbers[0] <= most_ins or not 1 <= numbers[1] <= _MOST_LINES:
        return None
    return numbers


def _row_in(words):
    """The row that the words tell, its goal being any COUNT; None if they tell none."""
    gives = texts_of(words[:-2])
    goal, ticks = count_of(words[-2]), count_of(words[-1])
    if goal is None or not is_row((gives, goal, ticks), len(words) - 2, goal + 1):
        return None
    return (gives, goal, ticks)

"""Yards amid a run, on which beats are done one behind another."""

from flowyard.errors import TooMany
from flowyard.yards import signs_read


class Walk:
    """What stands and waits where, from a state on, with sizes or without.

    All that is in the yard stands in one list of texts: what is left of the stream, then what is
    in the pipes, then what was given at the exits. So a beat need not ask which kind of line it
    reads or feeds.
    """

    def __init__(self, wiring, state, sizes=None):
        standings, contents, rest, given = state
        self._stands = list(standings)
        self._texts = [rest, *contents, *given]
        self._first_exit = 1 + len(contents)
        self._wiring = wiring
        self._rooms = {}
        if sizes is not None:
            self._rooms = {1 + pipe: size for pipe, size in enumerate(sizes)}

    def state_now(self):
        contents = self._texts[1 : self._first_exit]
        given = self._texts[self._first_exit :]
        return (tuple(self._stands), tuple(contents), self._texts[0], tuple(given))

    def can_do(self, station):
        row = self._row_now(station)
        return row is not None and self._has_room(row[1])

    def can_do_now(self):
        """The stations whose beat can be done."""
        return [station for station in range(len(self._stands)) if self.can_do(station)]

    def lacking_now(self):
        """The stations whose beat could be done if there was room for what it gives."""
        found = []
        for station in range(len(self._stands)):
            row = self._row_now(station)
            if row is not None and not self._has_room(row[1]):
                found.append(station)
        return found

    def do(self, station):
        """Do a beat that can be done; the lines that it reads, what it gives to which, its ticks."""
        goal, gives, ticks = self._row_now(station)
        lines, _ = self._wiring[station][self._stands[station]]
        for line in lines:
            self._texts[line] = self._texts[line][1:]
        for line, text in gives:
            self._texts[line] = self._texts[line] + text
        self._stands[station] = goal
        return lines, gives, ticks

    def finish(self, most):
        """Do always the first beat that can be done; their stations, TooMany if more than most.

        With None in the place of most no beats are too many.
        """
        beats = []
        station = 0
        while station < len(self._stands):
            if not self.can_do(station):
                station += 1
                continue
            if len(beats) == most:
                raise TooMany("beats", most)
            self.do(station)
            beats.append(station)
            # Without sizes a beat lets none but its own and later stations do more.
            if self._rooms:
                station = 0
        return beats

    def _row_now(self, station):
        """The row, as wired, for the signs that wait; None unless there is one on each line."""
        lines, rows = self._wiring[station][self._stands[station]]
        # A line without a sign leaves the key too short for any row.
        return rows.get("".join([self._texts[line][:1] for line in lines]))

    def _has_room(self, gives):
        for line, text in gives:
            if line in self._rooms and len(self._texts[line]) + len(text) > self._rooms[line]:
                return False
        return True


def wired(yard):
    """For each standing of each station the lines that it reads, and its rows by their signs."""
    read_from, given_to = _lines_of(yard)
    wiring = []
    for number, station in enumerate(yard.stations):
        ins = [read_from[(number, line)] for line in range(station.ins)]
        outs = [given_to[(number, line)] for line in range(station.outs)]
        wiring.append([_wired_standing(reads, rows, ins, outs) for reads, rows in station.standings()])
    return wiring


def end_of(wiring, state):
    """The END behind a state without sizes, however many beats there are."""
    standings, contents, rest, given = state
    texts = [rest, *contents, *given]
    first_exit = 1 + len(contents)
    # No pipe leads to a lesser number: so each station can do all its beats at once.
    stands = [_all_done(station, standing, texts)[0] for station, standing in zip(wiring, standings)]
    return (tuple(stands), tuple(texts[1:first_exit]), texts[0], tuple(texts[first_exit:]))


def beats_of(wiring, state, station):
    """How many beats of a station there are behind a state without sizes, however many there are in all."""
    standings, contents, rest, given = state
    texts = [rest, *contents, *given]
    counts = [_all_done(wiring[number], standings[number], texts)[1] for number in range(station + 1)]
    return counts[station]


def _all_done(station, standing, texts):
    """Do all beats of a wired station on the texts; where it stands then, and how many beats that were."""
    beats = 0
    taken = {line: 0 for lines, _ in station for line in lines}
    given = {}
    while True:
        lines, rows = station[standing]
        row = rows.get("".join([texts[line][taken[line] : taken[line] + 1] for line in lines]))
        if row is None:
            break
        standing = row[0]
        beats += 1
        for line in lines:
            taken[line] += 1
        for line, text in row[1]:
            given.setdefault(line, []).append(text)
    for line, number in taken.items():
        texts[line] = texts[line][number:]
    for line, parts in given.items():
        texts[line] = texts[line] + "".join(parts)
    return standing, beats


def _lines_of(yard):
    """The places among the texts of a walk for all in-lines, and for all out-lines."""
    read_from = {(0, 0): 0}
    given_to = {}
    for position, (station, out_line, later, in_line) in enumerate(yard.pipes):
        given_to[(station, out_line)] = 1 + position
        read_from[(later, in_line)] = 1 + position
    for position, line in enumerate(yard.exits):
        given_to[line] = 1 + len(yard.pipes) + position
    return read_from, given_to


def _wired_standing(reads, rows, ins, outs):
    lines = [ins[int(digit) - 1] for digit in reads]
    wired_rows = {}
    for signs, (gives, goal, ticks) in zip(signs_read(reads), rows):
        wired_rows[signs] = (goal, [(line, text) for line, text in zip(outs, gives) if text != ""], ticks)
    return lines, wired_rows

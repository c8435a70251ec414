"""Terms compiled to yards."""

from flowyard.errors import InvalidTerm
from flowyard.terms import check_term, outer_ins, parts_of, word_of
from flowyard.yards import Station, Yard

# By the words of the nodes, for each standing the rows as (what is given, goal).
_ROWS = {
    "not": ((("1", 0), ("0", 0)),),
    "twice": ((("00", 0), ("11", 0)),),
    "half": ((("", 1), ("", 1)), (("0", 0), ("1", 0))),
    "change": ((("0", 0), ("1", 1)), (("1", 0), ("0", 1))),
    "count": ((("0", 0), ("1", 1)), (("1", 1), ("0", 0))),
    "keep": ((("", 0), ("0", 0), ("", 0), ("1", 0)),),
}
_ROWS_OF_LATE = {
    "0": ((("0", 0), ("0", 1)), (("1", 0), ("1", 1))),
    "1": ((("1", 1), ("1", 0)), (("0", 1), ("0", 0))),
}


def compiled(term):
    check_term(term)
    stations = []
    pipes = []
    _place(term, None, stations, pipes)
    if stations == []:
        stations.append(Station(1, 1, [("1", [(("0",), 0, 1), (("1",), 0, 1)])]))
    return Yard(stations, pipes)


def station_for(term):
    check_term(term)
    if word_of(term) in ("in", "then"):
        raise InvalidTerm(term)
    return _own_station(term)


def _place(term, line, stations, pipes):
    """Put in the stations of a term of a line, its copies first; the line on which its flow comes.

    A line is a tuple (station, out-line), or None for the entry.
    """
    lines = []
    for _ in range(outer_ins(term) - 1):
        copies = Station(1, 2, [("1", [(("0", "0"), 0, 1), (("1", "1"), 0, 1)])])
        number = _put(copies, [line], stations, pipes)
        lines.append((number, 0))
        line = (number, 1)
    lines.append(line)
    return _place_at(term, lines, stations, pipes)


def _place_at(term, lines, stations, pipes):
    """As above, behind the copies. The first lines are its outer "in" and are taken off."""
    word = word_of(term)
    if word == "in":
        return lines.pop(0)
    if word == "then":
        return _place(term[2], _place_at(term[1], lines, stations, pipes), stations, pipes)
    read = []
    for part in parts_of(term):
        read.append(_place_at(part, lines, stations, pipes))
    return (_put(_own_station(term), read, stations, pipes), 0)


def _put(station, lines, stations, pipes):
    """Put in a station that reads the lines; its number."""
    number = len(stations)
    stations.append(station)
    for in_line, line in enumerate(lines):
        if line is not None:
            pipes.append((*line, number, in_line))
    return number


def _own_station(term):
    ins = len(parts_of(term))
    reads = "12" if ins == 2 else "1"
    standings = [(reads, [((given,), goal, 1) for given, goal in rows]) for rows in _rows_of(term)]
    return Station(ins, 1, standings)


def _rows_of(term):
    word = word_of(term)
    if word == "by":
        return [[(sign, 0) for sign in term[1]]]
    if word == "late":
        return _ROWS_OF_LATE[term[1]]
    return _ROWS[word]

"""Written forms of stations, yards, tables and terms."""

from flowyard.drafts import Draft, YardDraft
from flowyard.errors import InvalidEntry, InvalidLines
from flowyard.lines import Lines, count_of, texts_of, written_text
from flowyard.same import is_table
from flowyard.terms import is_term
from flowyard.yards import Station, Yard

_MOST_PLACES = 60


def written(entry):
    if isinstance(entry, Station):
        return _lined(_rows_of_station(entry))
    if isinstance(entry, Yard):
        return _lined(_rows_of_yard(entry))
    if is_term(entry):
        return _lined([[_term_word(entry)]])
    if any([is_table(entry, exits) for exits in range(1, Yard.MOST_EXITS + 1)]) and len(entry[1]) <= _MOST_PLACES:
        return _lined(_rows_of_table(entry))
    raise InvalidEntry(entry)


def read_station(lines):
    told = Lines(lines)
    draft = Draft(told, 2)
    told.check_end()
    return draft.station_told()


def read_yard(lines):
    told = Lines(lines)
    draft = YardDraft(told)
    told.check_end()
    return draft.yard_told()


def read_table(lines):
    told = Lines(lines)
    first = _first_in(told.words())
    if first is None:
        raise InvalidLines(told.number)
    told.go_on()
    places = []
    place = _place_in(told.words(), len(first))
    while place is not None and len(places) < _MOST_PLACES:
        places.append(place)
        told.go_on()
        place = _place_in(told.words(), len(first))
    if places == []:
        raise InvalidLines(told.number)
    told.check_end()
    for number, steps in enumerate(places):
        if any([goal >= len(places) for goal, _ in steps]):
            raise InvalidLines(2 + number)
    return (first, places)


def read_term(lines):
    told = Lines(lines)
    line = " ".join(told.words())
    term = _nested(line)
    if not is_term(term) or _term_word(term) != line:
        raise InvalidLines(told.number)
    told.go_on()
    told.check_end()
    return term


def _lined(rows):
    """Lines of words, numbers among them."""
    return "".join([" ".join([str(word) for word in row]) + "\n" for row in rows])


def _rows_of_station(station):
    rows = [["station", station.ins, station.outs]]
    for reads, told in station.standings():
        words = ["standing", reads]
        for gives, goal, ticks in told:
            words.extend([written_text(text) for text in gives])
            words.extend([goal, ticks])
        rows.append(words)
    return rows


def _rows_of_yard(yard):
    standings, contents = yard.begin
    rows = []
    for station in yard.stations:
        rows.extend(_rows_of_station(station))
    rows.extend([["pipe", *pipe] for pipe in yard.pipes])
    rows.append(["begin", *standings])
    rows.append(["contents"] + [written_text(text) for text in contents])
    return rows


def _rows_of_table(table):
    first, places = table
    rows = [["first"] + [written_text(text) for text in first]]
    for steps in places:
        words = ["place"]
        for goal, texts in steps:
            words.append(goal)
            words.extend([written_text(text) for text in texts])
        rows.append(words)
    return rows


def _term_word(term):
    """A term, or a sign or a table in it, without blanks."""
    if isinstance(term, str):
        return term
    told = ",".join([_term_word(part) for part in term[1:]])
    return f"{term[0]}({told})"


def _first_in(words):
    """What the words tell of what the empty stream gives; None if they tell nothing."""
    texts = texts_of(words[1:])
    if words[:1] != ["first"] or texts is None or not 1 <= len(texts) <= Yard.MOST_EXITS:
        return None
    return texts


def _place_in(words, exits):
    """The two steps of a place, their goals being any COUNTS; None if the words tell none."""
    wide = 1 + exits
    if words[:1] != ["place"] or len(words) != 1 + 2 * wide:
        return None
    steps = [(count_of(words[at]), texts_of(words[at + 1 : at + wide])) for at in (1, 1 + wide)]
    if any([goal is None or texts is None for goal, texts in steps]):
        return None
    return steps


def _nested(line):
    """The first word or tuple that the line tells by brackets and commas; None without one.

    Whether the line is written as it must be is not asked here.
    """
    # The last one of these is within all others.
    open_ones = [[]]
    word = ""
    for character in line:
        if character not in "(,)":
            word = word + character
            continue
        if character == "(":
            open_ones.append([word])
        elif word != "":
            open_ones[-1].append(word)
        if character == ")":
            closed = tuple(open_ones.pop())
            if open_ones == []:
                return None
            open_ones[-1].append(closed)
        word = ""
    if word != "":
        open_ones[-1].append(word)
    if open_ones[0] == []:
        return None
    return open_ones[0][0]

"""What a beat needs, chains of needs, and the full runs that lead to one END all the same."""

from flowyard.basics import is_below, is_list
from flowyard.checks import check_beat, check_sizes, check_stream, is_beat
from flowyard.errors import InvalidRun, TooMany, UnknownBeat
from flowyard.orders import needs_by_beat, numbered
from flowyard.runs import first_wrong, walk_behind, walk_from_begin

_MOST_BEATS = 60
_MOST_SETS = 5000


def beats(yard, stream, sizes=None):
    return sorted(_order(yard, stream, sizes, []))


def needs(yard, stream, beat, sizes=None):
    return _order(yard, stream, sizes, [beat])[beat]


def must_be_ahead(yard, stream, first, second, sizes=None):
    order = _order(yard, stream, sizes, [first, second])
    return _chain_in(order, first, second) is not None


def chain(yard, stream, first, second, sizes=None):
    order = _order(yard, stream, sizes, [first, second])
    return _chain_in(order, first, second)


def is_chain(yard, stream, first, second, value, sizes=None):
    order = _order(yard, stream, sizes, [first, second])
    if not is_list(value) or len(value) < 2 or not all([is_beat(yard, beat) for beat in value]):
        return False
    if value[0] != first or value[-1] != second:
        return False
    return all([earlier in order.get(later, []) for earlier, later in zip(value, value[1:])])


def run_against(yard, stream, first, second, sizes=None):
    order = _order(yard, stream, sizes, [first, second])
    if first == second or _chain_in(order, first, second) is not None:
        return None
    return _run_with_last(order, first)


def is_run_against(yard, stream, first, second, value, sizes=None):
    _order(yard, stream, sizes, [first, second])
    walk = walk_from_begin(yard, stream, sizes)
    if not is_list(value) or first_wrong(walk, yard, value) is not None or walk.can_do_now() != []:
        return False
    sequence = numbered(value)
    return sequence.index(second) < sequence.index(first)


def exchanges(yard, stream, one, other, sizes=None):
    _check_full(yard, stream, sizes, one)
    _check_full(yard, stream, sizes, other)
    _order(yard, stream, sizes, [])
    wanted = numbered(other)
    ranks = [wanted.index(beat) for beat in numbered(one)]
    places = []
    # Each exchange turns round one pair of neighbours that stands the wrong way, and no other pair.
    for many in range(len(ranks)):
        for place in reversed(range(many)):
            if ranks[place] > ranks[place + 1]:
                _exchange(ranks, place)
                places.append(place)
    return places


def are_exchanges(yard, stream, one, other, value, sizes=None):
    _check_full(yard, stream, sizes, one)
    _check_full(yard, stream, sizes, other)
    order = _order(yard, stream, sizes, [])
    if not is_list(value):
        return False
    sequence = numbered(one)
    for place in value:
        if not is_below(place, len(sequence) - 1) or sequence[place] in order[sequence[place + 1]]:
            return False
        _exchange(sequence, place)
    return sequence == numbered(other)


def how_many_full(yard, stream, sizes=None):
    order = _order(yard, stream, sizes, [])
    # A set of beats that can have been done is told by how many there are of each station: for each
    # set in how many ways it is come to, all sets of as many beats at once.
    ways = {(0,) * len(yard): 1}
    met = 1
    for _ in range(len(order)):
        ways = _ways_with_one_more(order, ways)
        met += len(ways)
        if met > _MOST_SETS:
            raise TooMany("sets", _MOST_SETS)
    return sum(list(ways.values()))


def _order(yard, stream, sizes, told):
    """The needs of all beats; the errors of the stream, the sizes, and the beats that were told."""
    check_stream(stream)
    check_sizes(yard, sizes)
    for beat in told:
        check_beat(yard, beat)
    order = needs_by_beat(yard, stream, sizes, _MOST_BEATS)
    for beat in told:
        if beat not in order:
            raise UnknownBeat(beat)
    return order


def _check_full(yard, stream, sizes, run):
    if walk_behind(yard, stream, run, sizes).can_do_now() != []:
        raise InvalidRun(None)


def _chain_in(order, first, second):
    """A shortest chain; None without one."""
    later_of = {}
    waiting = [second]
    while waiting != []:
        later = waiting.pop(0)
        for beat in order[later]:
            if beat not in later_of:
                later_of[beat] = later
                waiting.append(beat)
    if first not in later_of:
        return None
    found = [first]
    while found[-1] != second:
        found.append(later_of[found[-1]])
    return found


def _run_with_last(order, late):
    """A full run in which the beat is done only when nothing else can be done."""
    sequence = []
    while len(sequence) < len(order):
        ready = [beat for beat in order if beat not in sequence and _are_among(order[beat], sequence)]
        others = [beat for beat in ready if beat != late]
        sequence.append((others + ready)[0])
    return [station for station, _ in sequence]


def _are_among(wanted, rows):
    return all([beat in rows for beat in wanted])


def _exchange(rows, place):
    rows[place], rows[place + 1] = rows[place + 1], rows[place]


def _ways_with_one_more(order, ways):
    further = {}
    for counts, number in ways.items():
        for station in range(len(counts)):
            if _can_follow(order, counts, (station, counts[station])):
                goal = (*counts[:station], counts[station] + 1, *counts[station + 1 :])
                further[goal] = further.get(goal, 0) + number
    return further


def _can_follow(order, counts, beat):
    """Whether the beat is ever done, and all that it needs is among so many of each station."""
    return beat in order and all([number < counts[station] for station, number in order[beat]])

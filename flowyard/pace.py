"""How late a yard gets, and at which pace of the signs it keeps up."""

from flowyard.basics import is_endless_stream, is_list, is_stream, is_tuple_of, lowest_terms
from flowyard.checks import check_count, check_sizes
from flowyard.delays import least_late_stream
from flowyard.errors import NotEnough, TooMany
from flowyard.looking import look_through
from flowyard.moments import slots_at
from flowyard.pacing import Paced, are_for_nodes, greatest_delay, is_slot, least_heights, scaled, slowest_ring
from flowyard.sizing import Sized, all_sizes, least_among

_MOST_SLOTS = 120
_MOST_PIPES = 3


def delay(yard, apart, sizes=None):
    check_count(apart)
    paced = _paced(yard, sizes)
    found = least_heights(paced, apart)
    if found is None:
        return None
    return greatest_delay(paced, found)


def heights(yard, apart, sizes=None):
    check_count(apart)
    paced = _paced(yard, sizes)
    found = least_heights(paced, apart)
    if found is None:
        return None
    return {node: found[node] for node in sorted(paced.nodes)}


def are_heights(yard, apart, bound, value, sizes=None):
    check_count(apart)
    check_count(bound)
    paced = _paced(yard, sizes)
    if not are_for_nodes(paced, value):
        return False
    late = {node: height for node, height in value.items()}
    for rest in range(len(paced.looked.rests)):
        late[(rest, None)] = 0
    if any([late[(0, slot)] < ticks for slot, ticks in paced.first.items()]):
        return False
    if any([late[later] < late[node] + ticks - apart for node, later, ticks, _ in paced.edges]):
        return False
    return greatest_delay(paced, late) <= bound


def late_stream(yard, apart, sizes=None):
    check_count(apart)
    paced = _paced(yard, sizes)
    found = least_heights(paced, apart)
    if found is None:
        return None
    return least_late_stream(paced, apart, greatest_delay(paced, found))


def is_later(yard, apart, bound, value, sizes=None):
    check_count(apart)
    check_count(bound)
    paced = _paced(yard, sizes)
    if not is_stream(value):
        return False
    rest = 0
    late = paced.start()
    over = paced.over
    for sign in value:
        over = max(over, paced.last_end(late, rest, sign))
        if over > bound:
            return True
        rest, late = paced.moved(late, rest, sign, apart)
        over = over - apart
    return False


def pace(yard, sizes=None):
    mean, _, _ = slowest_ring(_paced(yard, sizes))
    return mean


def slowest(yard, sizes=None):
    paced = _paced(yard, sizes)
    _, ring, _ = slowest_ring(paced)
    rest, slot = ring[0][0]
    lap = "".join([sign for _, _, _, sign in ring])
    return (paced.looked.streams[rest], lap, [slot] + [later[1] for _, later, _, _ in ring])


def ring_mean(yard, value, sizes=None):
    paced = _paced(yard, sizes)
    if not is_tuple_of(value, 3) or not is_endless_stream(value[:2]) or not is_list(value[2]):
        return None
    begin, lap, slots = value
    if len(slots) != len(lap) + 1 or not all([is_slot(slot) for slot in slots]) or slots[0] != slots[-1]:
        return None
    first, _ = paced.looked.led(0, begin)
    rest = first
    together = 0
    for sign, slot, later in zip(lap, slots, slots[1:]):
        ticks = paced.links[(rest, sign)].get((slot, later))
        if ticks is None:
            return None
        together = together + ticks
        rest, _ = paced.looked.steps[rest][int(sign)]
    if rest != first:
        return None
    return lowest_terms(together, len(lap))


def scaled_heights(yard, sizes=None):
    paced = _paced(yard, sizes)
    _, _, found = slowest_ring(paced)
    return {node: found[node] for node in sorted(paced.nodes)}


def are_scaled(yard, value, sizes=None):
    paced = _paced(yard, sizes)
    if not are_for_nodes(paced, value):
        return False
    (least, signs), _, _ = slowest_ring(paced)
    for node, later, ticks, _ in paced.edges:
        if node in value and value[later] < value[node] + signs * ticks - least:
            return False
    return True


def keeping_sizes(yard):
    if len(yard.pipes) > _MOST_PIPES:
        raise TooMany("pipes", _MOST_PIPES)
    paced = _paced(yard, None)
    wanted, _, _ = slowest_ring(paced)
    tried = all_sizes(len(yard.pipes))
    return least_among([sizes for sizes in tried if _keep_pace(yard, paced.looked, sizes, wanted)])


def _paced(yard, sizes):
    """The yard, looked through, with the errors that this brings."""
    check_sizes(yard, sizes)
    looked = look_through(yard)
    if sizes is not None:
        still = Sized(yard, sizes, None).still
        if still is not None:
            raise NotEnough(still)
    if sum([len(slots_at(yard, contents, sizes)) for _, contents in looked.rests]) > _MOST_SLOTS:
        raise TooMany("slots", _MOST_SLOTS)
    return Paced(yard, looked, sizes)


def _keep_pace(yard, looked, sizes, wanted):
    """Whether sizes are enough, and no ring with them has a greater mean than the wanted one."""
    if Sized(yard, sizes, None).still is not None:
        return False
    _, slower = scaled(Paced(yard, looked, sizes), wanted)
    return slower is None

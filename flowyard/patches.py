"""Patches of a yard: rows that are put in the place of others, and which of them tell."""

from flowyard.basics import is_below, is_list, is_tuple_of
from flowyard.errors import InvalidPart, InvalidPatch, PatchesClash, TooMany
from flowyard.looking import MOST_WAITING, Looked, look_through
from flowyard.pairs import check_pairs, compared
from flowyard.yards import Yard, is_row, signs_read, with_row

_MOST_CHANGES = 6
_MOST_PAIRS = 1000


def patched(yard, patch):
    _check_patch(yard, patch)
    return _with_changes(yard, patch)


def word(yard, patch, part):
    _check_patch(yard, patch)
    _check_part(patch, part)
    found, _ = _judged(yard, look_through(yard), patch, part)
    return found


def shown_by(yard, patch, part):
    _check_patch(yard, patch)
    _check_part(patch, part)
    _, stream = _judged(yard, look_through(yard), patch, part)
    return stream


def least_changing(yard, patch):
    found = _parts_with(yard, patch, "changes")
    return [part for part in found if not any([_is_within(other, part) for other in found])]


def greatest_keeping(yard, patch):
    found = _parts_with(yard, patch, "keeps")
    return [part for part in found if not any([_is_within(part, other) for other in found])]


def overfilling(yard, patch):
    return _parts_with(yard, patch, "overfills")


def merged(yard, one, other):
    _check_patch(yard, one)
    _check_patch(yard, other)
    rows = {change[:3]: change[3] for change in one}
    clashes = [change[:3] for change in other if change[:3] in rows and rows[change[:3]] != change[3]]
    if clashes != []:
        raise PatchesClash(min(clashes))
    for change in other:
        rows[change[:3]] = change[3]
    if len(rows) > _MOST_CHANGES:
        raise TooMany("changes", _MOST_CHANGES)
    return [(*place, rows[place]) for place in sorted(rows)]


def kept_exits(yard, patch):
    _check_patch(yard, patch)
    looked = look_through(yard)
    streams = _streams_at_exits(yard, looked, patch)
    return [outlet for outlet, stream in enumerate(streams) if stream is None]


def lost_exits(yard, one, other):
    both = merged(yard, one, other)
    looked = look_through(yard)
    mine, yours, ours = [_streams_at_exits(yard, looked, patch) for patch in (one, other, both)]
    kept = [outlet for outlet in range(len(ours)) if mine[outlet] is None and yours[outlet] is None]
    return [(outlet, ours[outlet]) for outlet in kept if ours[outlet] is not None]


def _check_patch(yard, patch):
    if not is_list(patch) or not 1 <= len(patch) <= _MOST_CHANGES:
        raise InvalidPatch(None)
    places = []
    for position, change in enumerate(patch):
        if not _is_change(yard, change) or change[:3] in places:
            raise InvalidPatch(position)
        places.append(change[:3])


def _is_change(yard, value):
    if not is_tuple_of(value, 4) or not is_below(value[0], len(yard)):
        return False
    station = yard.stations[value[0]]
    if not is_below(value[1], len(station)) or not isinstance(value[2], str):
        return False
    return value[2] in signs_read(station.reads(value[1])) and is_row(value[3], station.outs, len(station))


def _check_part(patch, part):
    if not is_list(part) or not all([is_below(position, len(patch)) for position in part]):
        raise InvalidPart(part)
    if not all([position < later for position, later in zip(part, part[1:])]):
        raise InvalidPart(part)


def _with_changes(yard, changes):
    stations = yard.stations
    for station, standing, signs, row in changes:
        stations[station] = with_row(stations[station], standing, signs, row)
    return Yard(stations, yard.pipes, yard.begin)


def _judged(yard, looked, patch, part):
    """The word of a part, and the stream that shows it."""
    behind = Looked(_with_changes(yard, [patch[position] for position in part]), MOST_WAITING)
    if behind.overfilling is not None:
        return "overfills", behind.overfilling
    check_pairs(looked, behind, _MOST_PAIRS)
    stream, _ = compared(looked, behind, list(range(len(yard.exits))))
    if stream is None:
        return "keeps", None
    return "changes", stream


def _parts_with(yard, patch, wanted):
    """The sorted list of the parts that have this word; all parts are looked at."""
    _check_patch(yard, patch)
    looked = look_through(yard)
    words = [(part, _judged(yard, looked, patch, part)) for part in _all_parts(len(patch))]
    return [part for part, (told, _) in words if told == wanted]


def _all_parts(many):
    """All parts of a patch of so many changes, sorted."""
    found = [[]]
    for position in range(many):
        found = found + [[*part, position] for part in found]
    return sorted(found)


def _is_within(part, whole):
    """Whether the part is within another one."""
    return part != whole and all([position in whole for position in part])


def _streams_at_exits(yard, looked, patch):
    """For each exit the least stream of which the patched yard does not give there what the yard gives."""
    behind = look_through(_with_changes(yard, patch))
    check_pairs(looked, behind, _MOST_PAIRS)
    found = []
    for outlet in range(len(yard.exits)):
        stream, _ = compared(looked, behind, [outlet])
        found.append(stream)
    return found

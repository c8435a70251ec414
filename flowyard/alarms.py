"""What is sure of the rest of a yard behind what was heard of it, and the least texts that make it so."""

from flowyard.basics import is_below, is_count, is_list, is_stream, is_text, is_tuple_of
from flowyard.checks import check_exit, check_stream, check_text
from flowyard.errors import InvalidRests, NeverHeard, TooMany
from flowyard.tapping import Picture, least_texts, rests_of, tap_at
from flowyard.taps import is_part

_MOST_SIGNS = 8
_MOST_ALARMS = 100


def is_sure(yard, outlet, rests, text):
    tap = _tap_for_text(yard, outlet, rests, text)
    if tap.view_of_text(text) == ():
        raise NeverHeard(text)
    return _is_sure(tap, rests, text)


def unsure_stream(yard, outlet, rests, text):
    return _tap_for_text(yard, outlet, rests, text).least_stream(text, rests)


def is_unsure(yard, outlet, rests, text, value):
    tap = _tap_for_text(yard, outlet, rests, text)
    return is_stream(value) and _shows_unsure(tap, rests, text, value)


def sure_paper(yard, outlet, rests, text):
    tap = _tap_for_paper(yard, outlet, rests, text)
    if not _is_sure(tap, rests, text):
        return None
    return (tap.least_stream(text, []), _closed_list(tap, text))


def is_sure_paper(yard, outlet, rests, text, value):
    tap = _tap_for_text(yard, outlet, rests, text)
    return is_tuple_of(value, 2) and _makes_sure(tap, rests, text, value)


def alarms(yard, outlet, rests):
    check_exit(yard, outlet)
    _check_rests(rests)
    picture = Picture(tap_at(yard, outlet))
    ends = {number: _are_among(rests_of(view), rests) for number, view in enumerate(picture.views)}
    ends[None] = False
    return least_texts(picture, ends, "alarms", _MOST_ALARMS)


def alarm_paper(yard, outlet, rests, text):
    tap = _tap_for_paper(yard, outlet, rests, text)
    streams = [tap.least_stream(less, rests) for less in _with_one_sign_less(text)]
    if None in streams or not _is_sure(tap, rests, text):
        return None
    return (tap.least_stream(text, []), _closed_list(tap, text), streams)


def is_alarm_paper(yard, outlet, rests, text, value):
    tap = _tap_for_text(yard, outlet, rests, text)
    if not is_tuple_of(value, 3) or not _makes_sure(tap, rests, text, value[:2]):
        return False
    streams = value[2]
    if not is_list(streams) or len(streams) != len(text) or not all([is_text(stream) for stream in streams]):
        return False
    parts = _with_one_sign_less(text)
    return all([_shows_unsure(tap, rests, less, stream) for less, stream in zip(parts, streams)])


def rings_at(yard, outlet, rests, stream):
    check_exit(yard, outlet)
    _check_rests(rests)
    check_stream(stream)
    tap = tap_at(yard, outlet)
    view = tap.view_of_text(tap.first)
    rest = 0
    for number, sign in enumerate(stream):
        if _are_among(rests_of(view), rests):
            return number
        rest, added = tap.steps[rest][int(sign)]
        view = tap.view_behind(view, added)
    if _are_among(rests_of(view), rests):
        return len(stream)
    return None


def _check_rests(rests):
    if not is_list(rests) or not all([is_count(rest) for rest in rests]) or len(set(rests)) < len(rests):
        raise InvalidRests(rests)


def _tap_for_text(yard, outlet, rests, text):
    check_exit(yard, outlet)
    _check_rests(rests)
    check_text(text)
    return tap_at(yard, outlet)


def _tap_for_paper(yard, outlet, rests, text):
    tap = _tap_for_text(yard, outlet, rests, text)
    if len(text) > _MOST_SIGNS:
        raise TooMany("signs", _MOST_SIGNS)
    return tap


def _are_among(told, rests):
    return all([rest in rests for rest in told])


def _is_sure(tap, rests, text):
    """Whether the text can be heard and all rests behind it are among the rests."""
    view = tap.view_of_text(text)
    return view != () and _are_among(rests_of(view), rests)


def _shows_unsure(tap, rests, text, stream):
    """Whether the text is heard of the stream, and its rest is none of the rests."""
    rest, flow = tap.rest_and_flow(stream)
    return rest not in rests and is_part(text, flow)


def _with_one_sign_less(text):
    return [text[:place] + text[place + 1 :] for place in range(len(text))]


def _closed_list(tap, text):
    """The placed spots that every closed list has."""
    found = [(0, tap.first, 0)]
    met = {(0, tap.first, 0): True}
    at = 0
    while at < len(found):
        for spot in _asked_by(tap, text, found[at]):
            if spot not in met:
                met[spot] = True
                found.append(spot)
        at += 1
    return found


def _asked_by(tap, text, spot):
    """The placed spots that stand in a closed list with this one."""
    rest, left, met = spot
    asked = [(goal, added, met) for goal, added in tap.steps[rest]]
    if left != "":
        asked.append((rest, left[1:], met))
    if left != "" and left[:1] == text[met : met + 1]:
        asked.append((rest, left[1:], met + 1))
    return asked


def _makes_sure(tap, rests, text, value):
    """Whether a tuple of two is a sure paper."""
    stream, spots = value
    if not is_text(stream) or not is_part(text, tap.rest_and_flow(stream)[1]):
        return False
    if not is_list(spots) or not all([_is_placed(tap, text, spot) for spot in spots]):
        return False
    known = {spot: True for spot in spots}
    if (0, tap.first, 0) not in known:
        return False
    if not all([asked in known for spot in spots for asked in _asked_by(tap, text, spot)]):
        return False
    return _are_among([rest for rest, _, met in spots if met == len(text)], rests)


def _is_placed(tap, text, value):
    """Whether it is a placed spot of the text."""
    if not is_tuple_of(value, 3):
        return False
    return is_below(value[0], len(tap.steps)) and is_text(value[1]) and is_below(value[2], len(text) + 1)

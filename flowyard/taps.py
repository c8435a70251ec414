"""What can be heard of the flow at an exit through a tap that lets signs through and misses others."""

from flowyard.basics import is_below, is_list, is_text, is_tuple_of
from flowyard.checks import check_exit, check_stream, check_text
from flowyard.errors import InvalidWhole
from flowyard.runs import flows
from flowyard.tapping import Picture, least_texts, rests_of, tap_at

_MOST_TEXTS = 100


def is_part(text, whole):
    check_text(text)
    if not is_text(whole):
        raise InvalidWhole(whole)
    at = 0
    for sign in text:
        at = whole.find(sign, at) + 1
        if at == 0:
            return False
    return True


def heard_of(yard, outlet, stream, text):
    check_exit(yard, outlet)
    check_stream(stream)
    check_text(text)
    return is_part(text, flows(yard, stream)[outlet])


def can_be_heard(yard, outlet, text):
    return view(yard, outlet, text) != []


def first_stream(yard, outlet, text):
    _check_told(yard, outlet, text)
    return tap_at(yard, outlet).least_stream(text, [])


def view(yard, outlet, text):
    _check_told(yard, outlet, text)
    return list(tap_at(yard, outlet).view_of_text(text))


def rests_behind(yard, outlet, text):
    return rests_of(view(yard, outlet, text))


def picture(yard, outlet):
    check_exit(yard, outlet)
    found = Picture(tap_at(yard, outlet))
    return [(rests_of(spots), goals[0], goals[1]) for spots, goals in zip(found.views, found.steps)]


def unheard(yard, outlet):
    check_exit(yard, outlet)
    found = Picture(tap_at(yard, outlet))
    ends = {number: False for number in range(len(found.views))}
    ends[None] = True
    return least_texts(found, ends, "texts", _MOST_TEXTS)


def heard_apart(one, outlet, other, second):
    mine, yours = _both_pictures(one, outlet, other, second)
    text, _ = _compared(mine, yours)
    return text


def twins(one, outlet, other, second):
    mine, yours = _both_pictures(one, outlet, other, second)
    _, pairs = _compared(mine, yours)
    return pairs


def are_twins(one, outlet, other, second, value):
    mine, yours = _both_pictures(one, outlet, other, second)
    if not is_list(value) or not all([_is_pair(mine, yours, pair) for pair in value]):
        return False
    known = {pair: True for pair in value}
    if (0, 0) not in known:
        return False
    # No view of both behind a sign will do, too.
    known[(None, None)] = True
    steps = [(mine.steps[my_number], yours.steps[your_number]) for my_number, your_number in value]
    return all([goals in known for my_goals, your_goals in steps for goals in zip(my_goals, your_goals)])


def _check_told(yard, outlet, text):
    check_exit(yard, outlet)
    check_text(text)


def _both_pictures(one, outlet, other, second):
    check_exit(one, outlet)
    check_exit(other, second)
    mine = tap_at(one, outlet)
    yours = tap_at(other, second)
    return Picture(mine), Picture(yours)


def _compared(mine, yours):
    """The least text that tells both apart and None, or None and the pairs of views behind all texts."""
    pairs = [(0, 0)]
    texts = {(0, 0): ""}
    at = 0
    while at < len(pairs):
        my_number, your_number = pairs[at]
        for sign, my_goal, your_goal in zip("01", mine.steps[my_number], yours.steps[your_number]):
            text = texts[pairs[at]] + sign
            if (my_goal is None) != (your_goal is None):
                return text, None
            if my_goal is not None and (my_goal, your_goal) not in texts:
                texts[(my_goal, your_goal)] = text
                pairs.append((my_goal, your_goal))
        at += 1
    return None, pairs


def _is_pair(mine, yours, value):
    return is_tuple_of(value, 2) and is_below(value[0], len(mine.views)) and is_below(value[1], len(yours.views))

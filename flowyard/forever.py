"""Endless streams, and exits at which all of them have one and the same flow."""

from flowyard.ahead import Race, found_leads, is_torn, standing_lap
from flowyard.basics import is_below, is_lap, is_list, is_text, is_tuple_of
from flowyard.checks import check_exit, check_lap, check_text
from flowyard.endless import flows_of_zeros, ways_apart, whole_flow
from flowyard.looking import check_rest, look_through
from flowyard.pairs import check_pairs

_MOST_PAIRS = 400


def endless_flow(yard, outlet, begin, lap):
    check_exit(yard, outlet)
    check_text(begin)
    check_lap(lap)
    return whole_flow(look_through(yard), outlet, (begin, lap))


def settled_flow(yard, outlet, rest):
    check_exit(yard, outlet)
    looked = look_through(yard)
    check_rest(looked, rest)
    if ways_apart(looked, outlet)[rest] is not None:
        return None
    return flows_of_zeros(looked, outlet)[rest]


def are_same_for_ever(one, one_exit, other, other_exit):
    return ahead_list(one, one_exit, other, other_exit) is not None


def ahead_list(one, one_exit, other, other_exit):
    mine, yours = _both_looked_through(one, one_exit, other, other_exit)
    found, _ = found_leads(Race(mine, one_exit, yours, other_exit))
    return found


def is_ahead_list(one, one_exit, other, other_exit, value):
    mine, yours = _both_looked_through(one, one_exit, other, other_exit)
    if not is_list(value) or not all([_is_lead(mine, yours, lead) for lead in value]):
        return False
    leads = {lead: True for lead in value}
    pairs = {lead[:2]: True for lead in value}
    race = Race(mine, one_exit, yours, other_exit)
    if len(pairs) < len(value) or not _is_answered(race, leads, race.start()):
        return False
    for lead in value:
        if not all([_is_answered(race, leads, race.next_lead(lead, sign)) for sign in "01"]):
            return False
    return standing_lap(race, leads) is None


def endless_parting(one, one_exit, other, other_exit):
    mine, yours = _both_looked_through(one, one_exit, other, other_exit)
    _, streams = found_leads(Race(mine, one_exit, yours, other_exit))
    for stream in streams:
        if whole_flow(mine, one_exit, stream) != whole_flow(yours, other_exit, stream):
            return stream
    return None


def is_endless_parting(one, one_exit, other, other_exit, value):
    mine, yours = _both_looked_through(one, one_exit, other, other_exit)
    if not is_tuple_of(value, 2) or not is_text(value[0]) or not is_lap(value[1]):
        return False
    return whole_flow(mine, one_exit, value) != whole_flow(yours, other_exit, value)


def _both_looked_through(one, one_exit, other, other_exit):
    check_exit(one, one_exit)
    check_exit(other, other_exit)
    mine = look_through(one)
    yours = look_through(other)
    check_pairs(mine, yours, _MOST_PAIRS)
    return mine, yours


def _is_lead(mine, yours, value):
    return (
        is_tuple_of(value, 4)
        and is_below(value[0], len(mine.rests))
        and is_below(value[1], len(yours.rests))
        and is_text(value[2])
        and is_text(value[3])
        and not is_torn(value)
    )


def _is_answered(race, leads, lead):
    return lead in leads or race.fits(lead)

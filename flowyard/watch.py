"""What is always so of a flow that goes on for ever: silence, wishes that are kept, and gaps."""

from flowyard.basics import is_count, is_endless_stream, is_list, is_tuple_of
from flowyard.checks import check_count, check_exit
from flowyard.endless import silent_edges, whole_flow
from flowyard.laps import any_lap
from flowyard.looking import look_through
from flowyard.watching import Watched, are_bars_of, are_counts_for_nodes, bars_of, witness_of
from flowyard.wishes import check_lot


def is_live(yard, outlet):
    return ranks(yard, outlet) is not None


def ranks(yard, outlet):
    check_exit(yard, outlet)
    silent = silent_edges(look_through(yard), outlet)
    if any_lap(silent) is not None:
        return None
    found = [0 for _ in silent]
    # No silent way comes back to a rest: so none has more steps than there are rests.
    for _ in silent:
        found = [max([0] + [found[goal] + 1 for _, goal in silent[rest]]) for rest in silent]
    return found


def are_ranks(yard, outlet, value):
    check_exit(yard, outlet)
    silent = silent_edges(look_through(yard), outlet)
    if not is_list(value) or len(value) != len(silent) or not all([is_count(rank) for rank in value]):
        return False
    return all([value[goal] < value[rest] for rest, edges in silent.items() for _, goal in edges])


def silent_stream(yard, outlet):
    check_exit(yard, outlet)
    looked = look_through(yard)
    lap = any_lap(silent_edges(looked, outlet))
    if lap is None:
        return None
    return (looked.streams[lap[0][0]], "".join([sign for _, sign in lap]))


def is_silent_stream(yard, outlet, value):
    check_exit(yard, outlet)
    looked = look_through(yard)
    if not is_endless_stream(value):
        return False
    _, lap = whole_flow(looked, outlet, value)
    return lap == ""


def nodes(yard, outlet, wish):
    return sorted(_watched(yard, outlet, wish).steps)


def passed_lots(yard, outlet, wish):
    return _passed_lots(_watched(yard, outlet, wish), wish)


def witness(yard, outlet, wish, lot):
    return witness_of(_watched_for_lot(yard, outlet, wish, lot), lot)


def bars(yard, outlet, wish, lot):
    return bars_of(_watched_for_lot(yard, outlet, wish, lot), lot)


def is_witness(yard, outlet, wish, lot, value):
    watched = _watched_for_lot(yard, outlet, wish, lot)
    return is_endless_stream(value) and watched.last_lot(value) == list(lot)


def are_bars(yard, outlet, wish, lot, value):
    return are_bars_of(_watched_for_lot(yard, outlet, wish, lot), lot, value)


def is_kept(yard, outlet, wish):
    return breaker(yard, outlet, wish) is None


def kept_paper(yard, outlet, wish):
    watched = _watched(yard, outlet, wish)
    paper = [(lot, bars_of(watched, lot)) for lot in (~wish).good()]
    if any([barred is None for _, barred in paper]):
        return None
    return paper


def breaker(yard, outlet, wish):
    watched = _watched(yard, outlet, wish)
    for lot in (~wish).good():
        found = witness_of(watched, lot)
        if found is not None:
            return found
    return None


def is_kept_paper(yard, outlet, wish, value):
    watched = _watched(yard, outlet, wish)
    lots = (~wish).good()
    if not is_list(value) or len(value) != len(lots):
        return False
    return all([_is_barred(watched, lot, row) for lot, row in zip(lots, value)])


def is_breaker(yard, outlet, wish, value):
    watched = _watched(yard, outlet, wish)
    return is_endless_stream(value) and watched.last_lot(value) in (~wish).good()


def gap(yard, outlet, wish, lot):
    watched = _watched_for_lot(yard, outlet, wish, lot)
    heights = _least_heights(watched, wish, lot)
    if heights is None:
        return None
    _, greatest = _counted(watched.passed_first, lot, 0)
    rows = [(heights[node], passed) for node, steps in watched.steps.items() for _, passed in steps]
    for begun, passed in rows:
        _, most = _counted(passed, lot, begun)
        greatest = max(greatest, most)
    return greatest


def gap_heights(yard, outlet, wish, lot):
    watched = _watched_for_lot(yard, outlet, wish, lot)
    heights = _least_heights(watched, wish, lot)
    if heights is None:
        return None
    return {node: heights[node] for node in sorted(heights)}


def are_gap_heights(yard, outlet, wish, lot, number, value):
    check_exit(yard, outlet)
    check_lot(wish, lot)
    check_count(number)
    watched = Watched(look_through(yard), outlet, wish)
    if not are_counts_for_nodes(watched, value):
        return False
    # Each node has steps, and what they are begun with counts: so no height above the number goes by.
    rows = [(0, watched.passed_first, watched.first)]
    for node, steps in watched.steps.items():
        rows.extend([(value[node], passed, goal) for goal, passed in steps])
    for begun, passed, goal in rows:
        count, most = _counted(passed, lot, begun)
        if most > number or count > value[goal]:
            return False
    return True


def _watched(yard, outlet, wish):
    check_exit(yard, outlet)
    return Watched(look_through(yard), outlet, wish)


def _watched_for_lot(yard, outlet, wish, lot):
    check_exit(yard, outlet)
    check_lot(wish, lot)
    return Watched(look_through(yard), outlet, wish)


def _passed_lots(watched, wish):
    return [lot for lot in wish.lots() if witness_of(watched, lot) is not None]


def _is_barred(watched, lot, row):
    """Whether a row of a kept paper tells this lot, and bars of it."""
    if not is_tuple_of(row, 2) or not is_list(row[0]) or not all([is_count(place) for place in row[0]]):
        return False
    return list(row[0]) == lot and are_bars_of(watched, lot, row[1])


def _least_heights(watched, wish, lot):
    """For each node the greatest count just ahead of it; None if counts rise for ever."""
    if any([not any([place in lot for place in passed]) for passed in _passed_lots(watched, wish)]):
        return None
    heights = {node: 0 for node in watched.steps}
    heights[watched.first], _ = _counted(watched.passed_first, lot, 0)
    raised = True
    while raised:
        raised = False
        for node, steps in watched.steps.items():
            for goal, passed in steps:
                count, _ = _counted(passed, lot, heights[node])
                if count > heights[goal]:
                    heights[goal] = count
                    raised = True
    return heights


def _counted(passed, lot, begun):
    """The count of signs behind these places that led to none of the lot, and the greatest one meanwhile."""
    count = begun
    most = begun
    for place in passed:
        count = 0 if place in lot else count + 1
        most = max(most, count)
    return count, most

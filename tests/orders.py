"""A slow reading of [15] for the tests: needs, chains, and all that comes of them."""

from helper import slow_behind, slow_begin, slow_full_run


def beats_of(run):
    return [(station, run[:place].count(station)) for place, station in enumerate(run)]


def slow_needs(yard, stream, sizes):
    """For each beat the beats that it needs, found as a full run is walked."""
    run, _ = slow_full_run(yard, stream, sizes, max)
    pipes = sorted(yard.pipes)
    put = {pipe: [None] * len(text) for pipe, text in zip(pipes, yard.begin[1])}
    taken = {pipe: [] for pipe in pipes}
    state = slow_begin(yard, stream)
    found = {}
    for beat in beats_of(run):
        station, number = beat
        needed = {(station, number - 1)} if number else set()
        reads = yard.stations[station].standings()[state[0][station]][0]
        behind = slow_behind(yard, state, station, sizes)
        for at, pipe in enumerate(pipes):
            if pipe[2] == station and "12"[pipe[3]] in reads:
                needed.add(put[pipe][len(taken[pipe])])
                taken[pipe].append(beat)
            if pipe[0] == station:
                given = len(behind[1][at]) - len(state[1][at])
                put[pipe] += [beat] * given
                if given and sizes is not None:
                    # Those that still stand there have room: all the others must be gone.
                    must_go = put[pipe][:-sizes[at]]
                    needed |= {taken[pipe][len(must_go) - 1]} if must_go else set()
        found[beat] = sorted(needed - {None})
        state = behind
    return found


def all_needed(order, beat):
    found = set()
    waiting = [beat]
    while waiting:
        for needed in order[waiting.pop()]:
            if needed not in found:
                found.add(needed)
                waiting.append(needed)
    return found


def slow_sets(order):
    """All sets of beats that can have been done."""
    found = {frozenset()}
    waiting = [frozenset()]
    while waiting:
        ahead = waiting.pop()
        for beat in order:
            if beat not in ahead and set(order[beat]) <= ahead and ahead | {beat} not in found:
                found.add(ahead | {beat})
                waiting.append(ahead | {beat})
    return found

"""A slow reading of [41] to [46] for the tests: runs of all short streams, and signs that are counted."""

from helper import slow_begin, slow_behind, slow_can, slow_full_run
from orders import beats_of, slow_needs
from slow_rests import all_texts


def slow_lacking(yard, state, sizes):
    return [number for number in slow_can(yard, state, None) if number not in slow_can(yard, state, sizes)]


def slow_enough_for(yard, stream, sizes):
    return slow_lacking(yard, slow_full_run(yard, stream, sizes, max)[1], sizes) == []


def slow_still(yard, sizes, most):
    """The least stream of up to so many signs that stands still; None without one."""
    for stream in all_texts(most):
        if not slow_enough_for(yard, stream, sizes):
            return stream
    return None


def slow_sized_rests(yard, sizes, most):
    """The rests with the sizes of all led streams of up to so many signs, as they come."""
    found = []
    led = {}
    for stream in all_texts(most):
        led[stream] = (stream == "" or led[stream[:-1]]) and slow_enough_for(yard, stream, sizes)
        rest = slow_full_run(yard, stream, sizes, min)[1][:2]
        if led[stream] and rest not in found:
            found.append(rest)
    return found


def slow_fullest(yard, sizes, most):
    """By all states behind all runs; None if there are more than so many."""
    met = [yard.begin]
    for standings, contents in met:
        for sign in "01":
            state = (standings, contents, sign, ("",) * len(yard.exits))
            for number in slow_can(yard, state, sizes):
                behind = slow_behind(yard, state, number, sizes)[:2]
                if behind not in met:
                    met.append(behind)
        if len(met) > most:
            return None
    return tuple(max(len(contents[pipe]) for _, contents in met) for pipe in range(len(yard.pipes)))


def slow_waits(yard, stream, sizes):
    """For each beat those for which it waits, and for each beat the pipes at which it waits for ever."""
    run, _ = slow_full_run(yard, stream, None, min)
    needs = slow_needs(yard, stream, None)
    waits = {beat: set(needed) for beat, needed in needs.items()}
    stays = {beat: [] for beat in needs}
    for at, (pipe, text) in enumerate(zip(yard.pipes, yard.begin[1])):
        put = len(text)
        givers = []
        takers = []
        state = slow_begin(yard, stream)
        for beat in beats_of(run):
            behind = slow_behind(yard, state, beat[0], None)
            change = len(behind[1][at]) - len(state[1][at])
            if beat[0] == pipe[0] and change:
                put += change
                givers.append((beat, put))
            if beat[0] == pipe[2] and change:
                takers.append(beat)
            state = behind
        for beat, many in givers:
            if many - sizes[at] > len(takers):
                stays[beat].append(at)
            elif many > sizes[at]:
                waits[beat].add(takers[many - sizes[at] - 1])
    return {beat: sorted(waits[beat]) for beat in waits}, stays

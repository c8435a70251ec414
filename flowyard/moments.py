"""When beats begin and end, and since when the slots of a yard stand as they do.

A MOMENT is a dict here: by how many ticks at the least it is behind each of its sources. So one clock
tells both: moments as numbers, of which None, the moment 0, is the one source, and links from slots.
"""

from flowyard.walks import Walk, wired


class Clock:
    """A walk, with the moments of all slots at its state and of the coming of each sign."""

    def __init__(self, walk, sizes, slots, comings):
        self._walk = walk
        self._sizes = sizes
        self._free = {}
        # By the lines of the walk, of which 0 is the entry and the next ones are the pipes.
        self._signs = {0: list(comings)}
        self._places = {}
        for slot, moment in slots.items():
            if slot[0] == "free":
                self._free[slot[1]] = moment
            elif slot[0] == "sign":
                self._signs.setdefault(1 + slot[1], []).append(moment)
            else:
                self._places.setdefault(1 + slot[1], []).append(moment)

    def do(self, station, told=None):
        """Do a beat, at the told moment or as soon as it can be done.

        When it can begin, when it ends, and what it gives to which lines.
        """
        lines, gives, ticks = self._walk.do(station)
        taken = [self._signs[line].pop(0) for line in lines]
        asked = latest([self._free[station], *taken, *self._places_taken(gives)])
        begin = asked
        if told is not None:
            begin = told
        over = behind(begin, ticks)
        self._free_places(lines, begin)
        self._free[station] = over
        for line, text in gives:
            self._signs.setdefault(line, []).extend([over] * len(text))
        return asked, over, gives

    def slots(self, pipes):
        """The moments of all slots of a yard with so many pipes, sorted."""
        found = {("free", station): moment for station, moment in self._free.items()}
        for pipe in range(pipes):
            for k, moment in enumerate(self._signs.get(1 + pipe, [])):
                found[("sign", pipe, k)] = moment
            for k, moment in enumerate(self._places.get(1 + pipe, [])):
                found[("room", pipe, k)] = moment
        return {slot: found[slot] for slot in sorted(found)}

    def _places_taken(self, gives):
        found = []
        if self._sizes is not None:
            for line, text in gives:
                if line <= len(self._sizes):
                    found.extend([self._places[line].pop(0) for _ in text])
        return found

    def _free_places(self, lines, moment):
        """A sign of each line is gone, which frees its place unless the pipe is as full as it may be."""
        if self._sizes is not None:
            for line in lines:
                if line > 0 and len(self._signs.get(line, [])) < self._sizes[line - 1]:
                    self._places.setdefault(line, []).append(moment)


def latest(moments):
    """The least moment that is behind all of them."""
    found = {}
    for moment in moments:
        for source, ticks in moment.items():
            found[source] = max(ticks, found.get(source, ticks))
    return found


def behind(moment, ticks):
    return {source: before + ticks for source, before in moment.items()}


def slots_at(yard, contents, sizes):
    """The sorted list of the slots where these texts wait in the pipes."""
    found = [("free", station) for station in range(len(yard))]
    for pipe, text in enumerate(contents):
        found.extend([("sign", pipe, k) for k in range(len(text))])
        if sizes is not None:
            found.extend([("room", pipe, k) for k in range(sizes[pipe] - len(text))])
    return sorted(found)


def links_of_step(yard, rest, coming, sizes):
    """Behind a step from the rest: the moments of its slots, and the ends of its beats, by their sources."""
    state = (*rest, coming, ("",) * len(yard.exits))
    slots = {slot: {slot: 0} for slot in slots_at(yard, rest[1], sizes)}
    wiring = wired(yard)
    clock = Clock(Walk(wiring, state, sizes), sizes, slots, [{None: 0} for _ in coming])
    ends = []
    for station in Walk(wiring, state, sizes).finish(None):
        _, over, _ = clock.do(station)
        ends.append(over)
    return clock.slots(len(yard.pipes)), latest(ends)

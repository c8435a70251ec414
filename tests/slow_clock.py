"""A slow reading of [51] to [55] for the tests: a clock that goes tick by tick, and places with names."""


class Ticking:
    """A yard at a state, and what comes when; by slots [54] the moments since when they are so.

    Signs in pipes are lists [sign, moment from which it is there]; free places are moments, the first
    one freed first.
    """

    def __init__(self, yard, rest, sizes, coming, slots=None):
        slots = slots or {}
        self.yard = yard
        self.pipes = sorted(yard.pipes)
        self.sizes = sizes
        self.standings = list(rest[0])
        self.coming = [list(pair) for pair in coming]
        self.free = [slots.get(("free", number), 0) for number in range(len(yard))]
        self.signs = [[[sign, slots.get(("sign", at, k), 0)] for k, sign in enumerate(text)]
                      for at, text in enumerate(rest[1])]
        self.places = None
        if sizes is not None:
            self.places = [[slots.get(("room", at, k), 0) for k in range(size - len(text))]
                           for at, (size, text) in enumerate(zip(sizes, rest[1]))]
        self.counts = [0] * len(yard)
        self.done = []
        self.given = [[] for _ in yard.exits]

    def lines_in(self, number):
        """What waits on the lines that the station's standing reads."""
        reads = self.yard.stations[number].standings()[self.standings[number]][0]
        rows = []
        for line in [int(digit) - 1 for digit in reads]:
            if (number, line) == (0, 0):
                rows.append((None, self.coming))
            else:
                at = [pipe[2:] for pipe in self.pipes].index((number, line))
                rows.append((at, self.signs[at]))
        return rows

    def lines_out(self, number):
        """For each out-line the place of its pipe, or None."""
        outs = [pipe[:2] for pipe in self.pipes]
        return [outs.index((number, line)) if (number, line) in outs else None
                for line in range(self.yard.stations[number].outs)]

    def try_at(self, number, now):
        """Let a beat of the station begin now, if it can."""
        rows = self.lines_in(number)
        if self.free[number] > now or any(not row or row[0][1] > now for _, row in rows):
            return False
        signs = "".join(row[0][0] for _, row in rows)
        gives, goal, ticks = self.yard.stations[number].row(self.standings[number], signs)
        outs = self.lines_out(number)
        for at, text in zip(outs, gives):
            if self.sizes is not None and at is not None:
                if len(self.places[at]) < len(text) or any(place > now for place in self.places[at][:len(text)]):
                    return False
        for at, row in rows:
            row.pop(0)
            if self.sizes is not None and at is not None and len(row) < self.sizes[at]:
                self.places[at].append(now)
        for line, (at, text) in enumerate(zip(outs, gives)):
            if at is None:
                if text:
                    self.given[self.yard.exits.index((number, line))].append((now + ticks, text))
                continue
            self.signs[at] += [[sign, now + ticks] for sign in text]
            if self.sizes is not None:
                self.places[at] = self.places[at][len(text):]
        self.standings[number] = goal
        self.free[number] = now + ticks
        self.done.append((now, now + ticks, (number, self.counts[number])))
        self.counts[number] += 1
        return True

    def go(self):
        """Go on from tick to tick until nothing can happen any more; ticks at which nothing comes are left out."""
        now = 0
        while now is not None:
            if not any([self.try_at(number, now) for number in range(len(self.yard))]):
                now = min([moment for moment in self.moments() if moment > now], default=None)
        return self

    def moments(self):
        found = self.free + [moment for _, moment in self.coming]
        for row in self.signs:
            found += [moment for _, moment in row]
        for row in self.places or []:
            found += row
        return found

    def slots(self):
        found = {("free", number): moment for number, moment in enumerate(self.free)}
        for at, row in enumerate(self.signs):
            found |= {("sign", at, k): moment for k, (_, moment) in enumerate(row)}
        for at, row in enumerate(self.places or []):
            found |= {("room", at, k): moment for k, moment in enumerate(row)}
        return {slot: found[slot] for slot in sorted(found)}


def ticking(yard, stream, apart, sizes):
    return Ticking(yard, yard.begin, sizes, [(sign, n * apart) for n, sign in enumerate(stream)]).go()


def slow_lateness(yard, stream, apart, sizes):
    coming = len(stream) * apart
    return {slot: moment - coming for slot, moment in ticking(yard, stream, apart, sizes).slots().items()}


# Far later than all that comes of the other slots of a step.
FAR = 1000


def slow_links(yard, rest, sign, sizes):
    """Each slot, and the coming of the sign, is made late alone: what gets late by it has a link from it."""
    found = []
    for slot in [None, *Ticking(yard, rest, sizes, []).slots()]:
        coming = [(sign, FAR if slot is None else 0)]
        behind = Ticking(yard, rest, sizes, coming, {slot: FAR}).go().slots()
        found += [(slot, later, moment - FAR) for later, moment in behind.items() if moment >= FAR]
    return found


def slow_ends(yard, rest, sign, sizes):
    """For each slot, and None, how far the last end of the step is behind it; those alone that decide some end."""
    found = {}
    for slot in [None, *Ticking(yard, rest, sizes, []).slots()]:
        coming = [(sign, FAR if slot is None else 0)]
        done = Ticking(yard, rest, sizes, coming, {slot: FAR}).go().done
        late = [over - FAR for _, over, _ in done if over > FAR]
        if late:
            found[slot] = max(late)
    return found

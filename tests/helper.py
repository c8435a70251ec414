"""What the tests share: stations, yards, a slow reading of the document, and a check of errors."""

import unittest

from flowyard.yards import Station, Yard

PASS = Station(1, 1, [("1", [(("0",), 0, 1), (("1",), 0, 1)])])
TURN = Station(1, 1, [("1", [(("1",), 0, 1), (("0",), 0, 1)])])
TWICE = Station(1, 1, [("1", [(("00",), 0, 1), (("11",), 0, 1)])])
EATS = Station(1, 1, [("1", [(("",), 0, 1), (("",), 0, 1)])])
HALF = Station(1, 1, [
    ("1", [(("",), 1, 1), (("",), 1, 1)]),
    ("1", [(("0",), 0, 1), (("1",), 0, 1)]),
])
COPY = Station(1, 2, [("1", [(("0", "0"), 0, 1), (("1", "1"), 0, 1)])])
SPLIT = Station(1, 2, [
    ("1", [(("0", ""), 1, 1), (("1", ""), 1, 1)]),
    ("1", [(("", "0"), 0, 1), (("", "1"), 0, 1)]),
])
UNLIKE = Station(2, 1, [("12", [(("0",), 0, 1), (("1",), 0, 1), (("1",), 0, 1), (("0",), 0, 1)])])
BY_TURNS = Station(2, 1, [
    ("1", [(("0",), 1, 1), (("1",), 1, 1)]),
    ("2", [(("0",), 0, 1), (("1",), 0, 1)]),
])

# The yard of the document's overview: it parts a flow from every second sign of itself.
OVERVIEW = Yard([COPY, HALF, UNLIKE], [(0, 0, 1, 0), (0, 1, 2, 1), (1, 0, 2, 0)])
ROW = Yard([TURN, TURN], [(0, 0, 1, 0)])


class Cases(unittest.TestCase):
    def fails(self, error, attributes, call, *given, **named):
        """The call raises just this error, with these attributes."""
        with self.assertRaises(error) as caught:
            call(*given, **named)
        self.assertIs(caught.exception.__class__, error)
        self.same({name: getattr(caught.exception, name) for name in attributes}, attributes)

    def fails_on(self, error, values, call):
        """The call raises this error with the value, for each of the values."""
        for value in values:
            with self.subTest(value=repr(value)):
                self.fails(error, {"value": value}, call, value)

    def same(self, found, wanted):
        """Equal, and of the same kinds throughout: lists are no tuples, True is no 1."""
        self.assertEqual(found, wanted)
        self.assertEqual(repr(found), repr(wanted))


def odd_values():
    """Values of all kinds that are no INTEGERS, signs, texts, lists or tuples with something in."""
    return [None, True, False, b"0", b"", "x", "2", "0x", " ", "01 ", {}, {0: 1}, {0, 1}, set(),
            frozenset([0]), object(), int, len, range(2), PASS, ROW, Exception("0")]


def no_counts():
    return odd_values() + ["", "0", "1", [], (), [0], (0,), [1], (1,), -1, -2, -10 ** 29]


def no_texts():
    return odd_values() + [0, 1, -1, 10, [], (), ["0"], ("0",), ["0", "1"], "-", "012", "\n", "0\n", "0 1"]


# A slow reading of [13] and [14], which shares no code with the package.

def slow_behind(yard, state, number, sizes):
    """The state behind the station's beat; None if it cannot be done."""
    standings, contents, rest, flows = state
    pipes = sorted(yard.pipes)
    waiting = dict(zip(pipes, contents))
    reads, rows = yard.stations[number].standings()[standings[number]]
    read = {"1": [0], "2": [1], "12": [0, 1]}[reads]
    signs = ""
    for line in read:
        if (number, line) == (0, 0):
            signs += rest[:1]
            rest = rest[1:]
        for pipe in pipes:
            if pipe[2:] == (number, line):
                signs += waiting[pipe][:1]
                waiting[pipe] = waiting[pipe][1:]
    if len(signs) < len(read):
        return None
    gives, goal, _ticks = rows[int(signs, 2)]
    flows = list(flows)
    for out_line, text in enumerate(gives):
        ahead = [pipe for pipe in pipes if pipe[:2] == (number, out_line)]
        if not ahead:
            flows[yard.exits.index((number, out_line))] += text
        for pipe in ahead:
            if sizes is not None and text and len(waiting[pipe] + text) > sizes[pipes.index(pipe)]:
                return None
            waiting[pipe] += text
    standings = standings[:number] + (goal,) + standings[number + 1:]
    return standings, tuple(waiting[pipe] for pipe in pipes), rest, tuple(flows)


def slow_begin(yard, stream):
    standings, contents = yard.begin
    return standings, contents, stream, ("",) * len(yard.exits)


def slow_can(yard, state, sizes):
    return [number for number in range(len(yard)) if slow_behind(yard, state, number, sizes) is not None]


def slow_full_run(yard, stream, sizes, pick):
    """A full run and its END; pick chooses one of the stations that can be done."""
    run = []
    state = slow_begin(yard, stream)
    while can := slow_can(yard, state, sizes):
        run.append(pick(can))
        state = slow_behind(yard, state, run[-1], sizes)
    return run, state


def slow_full_runs(yard, stream, sizes, most):
    """All full runs with their ENDs, sorted; None if there are more than most."""
    found = []
    waiting = [([], slow_begin(yard, stream))]
    while waiting:
        run, state = waiting.pop()
        can = slow_can(yard, state, sizes)
        if not can:
            found.append((run, state))
        waiting += [(run + [number], slow_behind(yard, state, number, sizes)) for number in can]
        if len(found) + len(waiting) > most:
            return None
    return sorted(found)


class Dice:
    """The same numbers in each run of the tests, and on each Python."""

    def __init__(self, seed):
        self.seed = seed

    def below(self, limit):
        self.seed = (self.seed * 6364136223846793005 + 1442695040888963407) % 2 ** 64
        return (self.seed >> 33) % limit

    def one_of(self, values):
        return values[self.below(len(values))]

    def text(self, most):
        return "".join(self.one_of("01") for _ in range(self.below(most + 1)))


def some_station(dice, ins, outs):
    standings = []
    number = 1 + dice.below(4)
    for _ in range(number):
        reads = dice.one_of(["1", "2", "12"][:2 * ins - 1])
        rows = [(tuple(dice.text(2) for _ in range(outs)), dice.below(number), 1 + dice.below(9))
                for _ in range(4 if reads == "12" else 2)]
        standings.append((reads, rows))
    return Station(ins, outs, standings)


def some_yard(dice, most):
    """A yard of at most so many stations, its pipes in any sequence, begun anywhere."""
    stations = []
    pipes = []
    free = []
    many = 1 + dice.below(most)
    for number in range(many):
        ins = 1 if number == 0 else 1 + dice.below(min(2, len(free)))
        for line in range(ins if number else 0):
            pipes.append(free.pop(dice.below(len(free))) + (number, line))
        outs = 1 if len(free) > 1 else 1 + dice.below(2)
        free += [(number, line) for line in range(outs)]
        stations.append(some_station(dice, ins, outs))
    for k in range(len(pipes)):
        other = dice.below(len(pipes))
        pipes[k], pipes[other] = pipes[other], pipes[k]
    standings = tuple(dice.below(len(station)) for station in stations)
    return Yard(stations, pipes, (standings, tuple(dice.text(3) for _ in pipes)))


def some_sizes(dice, yard):
    return tuple(1 + dice.below(3) for _ in yard.pipes)

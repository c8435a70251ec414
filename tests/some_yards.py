"""Yards for the tests: counters with just so many rests, exits with just so many signs, and others."""

from flowyard.yards import Station, Yard
from helper import COPY, HALF, PASS, TURN, TWICE, UNLIKE

# The document's stations of stage 3 and 4: two signs are given at once, when the second one comes.
HOLD = Station(1, 1, [
    ("1", [(("",), 1, 1), (("",), 2, 1)]),
    ("1", [(("00",), 0, 1), (("01",), 0, 1)]),
    ("1", [(("10",), 0, 1), (("11",), 0, 1)]),
])
COPIES = Yard([PASS], [])
HOLDS = Yard([HOLD], [])
HELD_BY_TWO = Yard([COPY, HOLD, UNLIKE], [(0, 0, 1, 0), (0, 1, 2, 0), (1, 0, 2, 1)])
ONES = Yard([Station(1, 1, [("1", [(("1",), 0, 1), (("11",), 0, 1)])])], [])
EATING = Yard([Station(1, 1, [("1", [(("",), 0, 1), (("",), 0, 1)])])], [])
TURNING = Yard([TURN], [])
LATE = Yard([Station(1, 1, [
    ("1", [(("0",), 0, 1), (("0",), 1, 1)]),
    ("1", [(("1",), 0, 1), (("1",), 1, 1)]),
])], [])


def wheel(ticks=1):
    """A station that gives a sign for each fourth one."""
    return Station(1, 1, [("1", [(("0" if k == 3 else "",), (k + 1) % 4, ticks)] * 2) for k in range(4)])


def stair(counts="01"):
    """A station that goes from standing to standing and stays at the last one; other signs it only eats."""
    return Station(1, 1, [("1", [(("",), min(k + 1, 3) if sign in counts else k, 1) for sign in "01"])
                          for k in range(4)])


def only(sign):
    """A station that passes this sign alone."""
    return Station(1, 1, [("1", [(("0" if each == sign else "",), 0, 1) for each in "01"])])


def counting(rests, first=PASS):
    """A yard with just so many rests, from 16 to 64, one behind another, of which the last 16 go round."""
    skipped = 64 - rests
    return Yard([first, wheel(), wheel(), stair()], [(0, 0, 1, 0), (1, 0, 2, 0), (2, 0, 3, 0)],
                ((0, skipped % 4, skipped // 4 % 4, skipped // 16), ("", "", "")))


def doubling(times, last=PASS, begin=None):
    """A row of stations that give each sign twice, and then the last one."""
    pipes = [(k, 0, k + 1, 0) for k in range(times)]
    return Yard([TWICE] * times + [last], pipes, begin)


# Seventeen signs at the exit of the first sign, sixteen of all others.
ONE_MORE = Station(1, 1, [("1", [(("00",), 1, 1), (("11",), 1, 1)]), ("1", [(("0",), 1, 1), (("1",), 1, 1)])])

# Each beat gives two signs on two lines, which are read by turns: four times as many beats each.
FOUR = Station(1, 2, [("1", [(("00", "00"), 0, 1)] * 2)])
FOUR_TIMES = Station(2, 2, [("1", [(("00", "00"), 1, 1)] * 2), ("2", [(("00", "00"), 0, 1)] * 2)])
EATS_BOTH = Station(2, 1, [("1", [(("",), 1, 1)] * 2), ("2", [(("",), 0, 1)] * 2)])


def fourfold(times):
    """A yard in which a sign makes 1, 4, 16 .. beats, in all so many stations and one that eats all."""
    stations = [FOUR] + [FOUR_TIMES] * (times - 1) + [EATS_BOTH]
    return Yard(stations, [(k, line, k + 1, line) for k in range(times) for line in (0, 1)])


# [33] to [36]: turned twice, begun with signs, silent at last, and forks in what is given.
TWO_TURNS = Yard([TURN, TURN], [(0, 0, 1, 0)])
BEGUN = Yard([PASS, PASS], [(0, 0, 1, 0)], ((0, 0), ("011",)))
# After the first 1 it gives no more.
STOPS = Yard([Station(1, 1, [("1", [(("0",), 0, 1), (("",), 1, 1)]), ("1", [(("",), 1, 1)] * 2)])], [])
# From standing 1 on it gives one and the same whatever comes, from 0 on it gives that or turns to silence.
FORK = Yard([Station(1, 1, [("1", [(("01",), 1, 1), (("",), 2, 1)]), ("1", [(("0",), 3, 1), (("01",), 1, 1)]),
                            ("1", [(("",), 2, 1)] * 2), ("1", [(("1",), 1, 1), (("10",), 3, 1)])])], [])

# [41] to [45]
# 0 goes the one way, 1 the other one; both ways are read together.
UNEVEN = Station(1, 2, [("1", [(("0", ""), 0, 1), (("", "1"), 0, 1)])])
BOTH = Station(2, 1, [("12", [(("0",), 0, 1)] * 4)])
# Four signs come by one way before the reader can begin, two and two; its two pipes have to hold them together.
TWO_AND_TWO = Station(1, 2, [("1", [(("00", ""), 1, 1)] * 2), ("1", [(("00", "1"), 0, 1)] * 2)])
LATE_READER = Station(2, 1, [("12", [(("0",), 1, 1)] * 4), *[("1", [(("1",), goal, 1)] * 2) for goal in (2, 3, 0)]])
TWO_WAYS = Yard([TWICE, TWO_AND_TWO, PASS, LATE_READER], [(0, 0, 1, 0), (1, 0, 2, 0), (1, 1, 3, 1), (2, 0, 3, 0)])


def slowly(ticks, text="0"):
    """A station that takes so many ticks for each sign."""
    return Station(1, 1, [("1", [((text,), 0, ticks)] * 2)])


SLOW = Yard([Station(1, 1, [("1", [(("0",), 0, 1), (("1",), 0, 3)])])], [])
TWO = Yard([Station(1, 1, [("1", [(("00",), 0, 1), (("11",), 0, 1)])]), HALF], [(0, 0, 1, 0)])
# Two ticks, then five for each sign.
FAST_SLOW = Yard([slowly(2), slowly(5)], [(0, 0, 1, 0)])
# A sign comes through at each fourth one, and takes nine ticks then.
RARE = Yard([wheel(), slowly(9)], [(0, 0, 1, 0)])
# The first sign is fast, and all behind a 1 are slow.
TURNED = Yard([Station(1, 1, [("1", [(("0",), 0, 1), (("1",), 1, 2)]), ("1", [(("0",), 1, 4), (("1",), 1, 3)])])], [])

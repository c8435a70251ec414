"""Yards for the tests of stage 7: such as give a told text at once, just so many views, spots and rests."""

from flowyard.yards import Station, Yard, joined
from helper import COPY, PASS, TWICE
from some_yards import EATING, wheel

LATCH = Station(1, 1, [("1", [(("0",), 0, 1), (("1",), 1, 1)]), ("1", [(("1",), 1, 1), (("1",), 1, 1)])])
HELD = Yard([LATCH], [])
# Behind the first 1 all signs are passed, ahead of it none.
OPENS = Station(1, 1, [("1", [(("",), 0, 1), (("",), 1, 1)]), ("1", [(("0",), 1, 1), (("1",), 1, 1)])])
# Texts with just a hundred, and a hundred and one, least texts that are no parts of them.
HUNDRED = "0010100101010101"
HUNDRED_AND_ONE = "0101001011010110"


def giving(text, first=EATING.stations[0]):
    """A yard that gives the text of the empty stream, and then what the first station gives."""
    parts = [text[at:at + 3] for at in range(0, len(text), 3)][::-1] or [""]
    stations = [first] + [PASS] * len(parts)
    return Yard(stations, [(k, 0, k + 1, 0) for k in range(len(parts))], ((0,) * len(stations), tuple(parts)))


def zeros(many):
    """A yard whose flow is at last just so many zeros, 192 at the least and 201 at the most.

    The first one of its stations tells each fourth sign by a 1, the second one passes a 0 until it
    was told three times.
    """
    fourth = Station(1, 1, [("1", [(("1" if k == 3 else "0",), (k + 1) % 4, 1)] * 2) for k in range(4)])
    until = Station(1, 1, [("1", [(("0",), k, 1), (("0",), k + 1, 1)])
                           for k in range(3)] + [("1", [(("",), 3, 1)] * 2)])
    begin = "0" * (many - 192)
    yard = joined(Yard([fourth, until, TWICE, TWICE, TWICE, TWICE], [(k, 0, k + 1, 0) for k in range(5)]), 0,
                  giving(begin, PASS))
    return yard


def spots(more):
    """A yard with 396 spots and as many more, from 0 to 5: twelve rests, each sign sixteen times at each of them."""
    turning = Station(1, 1, [("1", [(("",), (k + 1) % 3, 1)] * 2) for k in range(3)])
    stations = [COPY, TWICE, TWICE, TWICE, TWICE, PASS, PASS, wheel(), turning]
    pipes = [(0, 0, 1, 0), (0, 1, 7, 0), (1, 0, 2, 0), (2, 0, 3, 0), (3, 0, 4, 0), (4, 0, 5, 0), (5, 0, 6, 0),
             (7, 0, 8, 0)]
    first = "1" * more + "0" if more else ""
    contents = ("", "", "", "", "", first[3:], first[:3], "")
    return Yard(stations, pipes, ((0,) * 9, contents))


def some_latched(dice):
    """A yard that never comes back to a standing that it has left."""
    many = 2 + dice.below(3)
    texts = dice.one_of([["0", "1"], ["", "0", "1"], ["0", "1", "01", "10"], ["0", "00", "1"]])
    rows = [("1", [((dice.one_of(texts),), min(k + dice.below(3), many - 1), 1) for _ in "01"]) for k in range(many)]
    return Yard([Station(1, 1, rows)], [])

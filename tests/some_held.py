"""Held yards of few rests for the tests, by dice."""

from flowyard.yards import Station, Yard, joined
from slow_rests import small_held
from some_yards import COPIES, TWO_TURNS


def some_held(dice):
    """A yard of one or two stations, of few rests, its texts such that two of them are often the same."""
    while True:
        texts = dice.one_of([["", "0", "1"], ["0", "1"], ["0"], ["", "1"], ["00", "01", ""]])
        stations = []
        for _ in range(1 + dice.below(2)):
            number = 1 + dice.below(3)
            stations.append(Station(1, 1, [("1", [((dice.one_of(texts),), dice.below(number), 1) for _ in "01"])
                                           for _ in range(number)]))
        yard = Yard(stations, [(0, 0, 1, 0)] if len(stations) == 2 else [])
        contents = (dice.text(1),) if len(stations) == 2 else ()
        yard = yard.begun((tuple(dice.below(len(station)) for station in stations), contents))
        if small_held(yard, 6):
            return yard


def some_two(dice):
    """Two yards, of which the second one is often the first one in other words."""
    one = some_held(dice)
    return one, dice.one_of([some_held(dice), one, joined(one, 0, COPIES), joined(COPIES, 0, one),
                             joined(one, 0, TWO_TURNS), one.begun((tuple(len(station) - 1 for station in one.stations),
                                                                   one.begin[1]))])

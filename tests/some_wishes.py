"""Wishes for the tests, and a slow reading of what a last lot is [63]."""

from itertools import combinations

from flowyard.wishes import Wish

LAST = Wish([(0, 1), (0, 1)], [[0, 1]])
ONE = Wish([(0, 0)], [])
ROUND = Wish([(1, 0), (2, 1), (3, 2), (0, 3)], [[0, 1, 2, 3], [3], [0]])
ALL_LOTS = {number: [list(lot) for size in range(1, number + 1) for lot in combinations(range(number), size)]
            for number in range(1, 5)}


def some_wish(dice):
    number = 1 + dice.below(4)
    goals = [(dice.below(number), dice.below(number)) for _ in range(number)]
    return Wish(goals, [lot for lot in ALL_LOTS[number] if dice.below(2)])


def slow_last_lot(wish, begin, lap):
    """Go round the lap until a place comes again at its beginning; from there all that is passed once more."""
    goals = wish.goals()
    place = 0
    for sign in begin:
        place = goals[place][int(sign)]
    met = {}
    rounds = []
    while place not in met:
        met[place] = len(rounds)
        passed = []
        for sign in lap:
            place = goals[place][int(sign)]
            passed.append(place)
        rounds.append(passed)
    return sorted({each for passed in rounds[met[place]:] for each in passed})

"""Wishes: what is wanted of a flow that goes on for ever."""

from flowyard.basics import is_below, is_endless_stream, is_lap, is_list, is_stream, is_tuple_of
from flowyard.checks import check_text
from flowyard.errors import InvalidGoals, InvalidLap, InvalidLot, InvalidLots, InvalidPlace, InvalidText
from flowyard.yards import Station


class Wish:
    """A wish. What it was made of is kept in tuples, so that it never changes."""

    MOST_PLACES = 4

    def __init__(self, goals, good):
        _check_goals(goals, Wish.MOST_PLACES)
        _check_lots(good, len(goals))
        wanted = [tuple(lot) for lot in good]
        self._goals = tuple(goals)
        self._good = tuple([lot for lot in _all_lots(len(goals)) if lot in wanted])

    def goals(self):
        return list(self._goals)

    def good(self):
        return [list(lot) for lot in self._good]

    def lots(self):
        return [list(lot) for lot in _all_lots(len(self))]

    def goes(self, place, text):
        self._check_way(place, text)
        return self._way(place, text)[-1]

    def passed(self, place, text):
        self._check_way(place, text)
        return self._way(place, text)[1:]

    def last_lot(self, begin, lap):
        if not is_stream(begin):
            raise InvalidText(begin)
        if not is_stream(lap) or not is_lap(lap):
            raise InvalidLap(lap)
        return list(self._last_lot(begin, lap))

    def __len__(self):
        return len(self._goals)

    def __contains__(self, x):
        return is_endless_stream(x) and self._last_lot(x[0], x[1]) in self._good

    def __invert__(self):
        return Wish(self._goals, [lot for lot in _all_lots(len(self)) if lot not in self._good])

    def __eq__(self, other):
        return isinstance(other, Wish) and self._goals == other._goals and self._good == other._good

    def __repr__(self):
        return f"Wish({self.goals()!r}, {self.good()!r})"

    def _check_way(self, place, text):
        if not is_below(place, len(self)):
            raise InvalidPlace(place)
        check_text(text)

    def _way(self, place, text):
        """The place, and that behind each sign."""
        found = [place]
        for sign in text:
            place = self._goals[place][int(sign)]
            found.append(place)
        return found

    def _last_lot(self, begin, lap):
        """The places of the last lot, rising, as a tuple."""
        place = self._way(0, begin)[-1]
        # Behind as many laps as there are places it goes round from place to place as it will for ever.
        place = self._way(place, lap * len(self))[-1]
        places = self._way(place, lap * len(self))[1:]
        return tuple([number for number in range(len(self)) if number in places])


def watching_station(wish, lot):
    check_lot(wish, lot)
    standings = []
    for goals in wish.goals():
        standings.append(("1", [((_heard(goal, lot),), goal, 1) for goal in goals]))
    return Station(1, 1, standings)


def check_lot(wish, lot):
    if not _is_lot(lot, len(wish)):
        raise InvalidLot(lot)


def _heard(goal, lot):
    if goal in lot:
        return "1"
    return "0"


def _all_lots(places):
    """All lots of so many places, sorted by how many places they have, and those with as many as usual."""
    found = []
    longest = [()]
    while longest != []:
        longest = [(*lot, place) for lot in longest for place in range(places) if place > max(lot, default=-1)]
        found = found + longest
    return found


def _is_lot(value, places):
    if not is_list(value) or len(value) == 0 or not all([is_below(place, places) for place in value]):
        return False
    return all([place < later for place, later in zip(value, value[1:])])


def _check_goals(goals, most):
    if not is_list(goals) or not 1 <= len(goals) <= most:
        raise InvalidGoals(None)
    for position, row in enumerate(goals):
        if not is_tuple_of(row, 2) or not all([is_below(goal, len(goals)) for goal in row]):
            raise InvalidGoals(position)


def _check_lots(lots, places):
    if not is_list(lots):
        raise InvalidLots(None)
    met = []
    for position, lot in enumerate(lots):
        if not _is_lot(lot, places) or tuple(lot) in met:
            raise InvalidLots(position)
        met.append(tuple(lot))

"""Yards that are looked through: all their rests, and the steps between them."""

from flowyard.basics import is_below
from flowyard.errors import InvalidRest, NotHeld, TooMany
from flowyard.walks import end_of, wired

MOST_RESTS = 60
_MOST_SIGNS = 16
MOST_WAITING = 3


class Looked:
    """What is met on the way through the streams of a yard, in order.

    The way ends with the first stream that leaves more signs in a pipe than most, if there is one:
    it is kept as the overfilling one. Otherwise all rests are known, for each of them the least
    stream that leads to it, and the steps by both signs.
    """

    def __init__(self, yard, most):
        self.rests = []
        self.streams = []
        self.steps = []
        self.overfilling = None
        self._most = most
        self._numbers = {}
        wiring = wired(yard)
        silent = ("",) * len(yard.exits)
        start = self._meet("", end_of(wiring, (*yard.begin, "", silent)))
        self.first = start[1]
        while self.overfilling is None and len(self.steps) < len(self.rests):
            number = len(self.steps)
            self.steps.append([])
            for sign in "01":
                if self.overfilling is None:
                    state = end_of(wiring, (*self.rests[number], sign, silent))
                    self.steps[number].append(self._meet(self.streams[number] + sign, state))

    def led(self, rest, text):
        """The rest to which a text leads from a rest, and what is given meanwhile at each exit."""
        given = []
        for sign in text:
            rest, texts = self.steps[rest][int(sign)]
            given.append(texts)
        return rest, ["".join([texts[outlet] for texts in given]) for outlet in range(len(self.first))]

    def flows(self, stream):
        _, texts = self.led(0, stream)
        return [first + text for first, text in zip(self.first, texts)]

    def _meet(self, stream, state):
        """The number of the rest at this state, and what was given up to it."""
        standings, contents, _, texts = state
        rest = (standings, contents)
        if any([len(text) > self._most for text in contents]):
            self.overfilling = stream
        elif rest not in self._numbers:
            if len(self.rests) == MOST_RESTS:
                raise TooMany("rests", MOST_RESTS)
            self._numbers[rest] = len(self.rests)
            self.rests.append(rest)
            self.streams.append(stream)
        if self.overfilling is None and any([len(text) > _MOST_SIGNS for text in texts]):
            raise TooMany("signs", _MOST_SIGNS)
        return (self._numbers.get(rest), texts)


def look_through(yard):
    looked = Looked(yard, MOST_WAITING)
    if looked.overfilling is not None:
        raise NotHeld(looked.overfilling)
    return looked


def check_rest(looked, rest):
    if not is_below(rest, len(looked.rests)):
        raise InvalidRest(rest)

"""Which beats a beat needs: the order that all runs keep."""

from flowyard.runs import walk_from_begin


class Passage:
    """By which beats the signs in a pipe were given and taken, in their sequence."""

    def __init__(self, text, size):
        # None stands for a sign that was there at the beginning.
        self._givers = [None] * len(text)
        self._takers = []
        self._size = size

    def take(self, beat):
        """The beat takes the next sign: the beat that gave it, or None."""
        giver = self._givers[len(self._takers)]
        self._takers.append(beat)
        return giver

    def put(self, beat, text):
        """The beat gives the text: the beat that took the last sign that had to go, or None."""
        self._givers.extend([beat] * len(text))
        if self._size is None or len(self._givers) <= self._size:
            return None
        return self._takers[len(self._givers) - self._size - 1]


def numbered(run):
    """The beats of the run as (station, k)."""
    counts = {}
    found = []
    for station in run:
        number = counts.get(station, 0)
        found.append((station, number))
        counts[station] = number + 1
    return found


def needs_by_beat(yard, stream, sizes, most):
    """For each beat that can ever be done the sorted list of those that it needs."""
    found = {}
    walk = walk_from_begin(yard, stream, sizes)
    passages = _passages(yard, sizes)
    for station, number in numbered(walk_from_begin(yard, stream, sizes).finish(most)):
        needed = _needed_now(walk, passages, (station, number))
        if number > 0:
            needed.append((station, number - 1))
        found[(station, number)] = sorted({beat for beat in needed if beat is not None})
    return found


def _passages(yard, sizes):
    """A passage for each pipe, by the number of its line in a walk."""
    if sizes is None:
        sizes = (None,) * len(yard.pipes)
    texts = yard.begin[1]
    return {1 + pipe: Passage(text, size) for pipe, (text, size) in enumerate(zip(texts, sizes))}


def _needed_now(walk, passages, beat):
    """The beats of other stations that the beat needs, which is done; None stands for no beat."""
    lines, gives, _ = walk.do(beat[0])
    needed = [passages[line].take(beat) for line in lines if line in passages]
    for line, text in gives:
        if line in passages:
            needed.append(passages[line].put(beat, text))
    return needed

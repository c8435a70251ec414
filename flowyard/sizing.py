"""Yards with sizes: the rests that they have with them, and the first stream that stands still."""

from flowyard.checks import MOST_SIZE
from flowyard.errors import TooMany
from flowyard.looking import MOST_RESTS
from flowyard.walks import Walk, wired


class Sized:
    """A yard that was looked through with sizes.

    Its rests with them, for each the least stream that leads to it, and the least stream for which
    the sizes are not enough, None without one. With None in the place of most no beats are too many.
    """

    def __init__(self, yard, sizes, most):
        self.rests = []
        self.streams = []
        self.still = None
        self._sizes = sizes
        self._wiring = wired(yard)
        self._silent = ("",) * len(yard.exits)
        self._numbers = {}
        self._meet(yard.begin, "", "", most)
        at = 0
        while at < len(self.rests):
            for sign in "01":
                self._meet(self.rests[at], sign, self.streams[at] + sign, most)
            at += 1

    def _meet(self, rest, coming, stream, most):
        """Do the full run from a rest by what comes, which makes up the stream."""
        walk = Walk(self._wiring, (*rest, coming, self._silent), self._sizes)
        walk.finish(most)
        if walk.lacking_now() != []:
            if self.still is None:
                self.still = stream
            return
        standings, contents, _, _ = walk.state_now()
        behind = (standings, contents)
        if behind not in self._numbers:
            if len(self.rests) == MOST_RESTS:
                raise TooMany("rests", MOST_RESTS)
            self._numbers[behind] = len(self.rests)
            self.rests.append(behind)
            self.streams.append(stream)


def all_sizes(pipes):
    """All sizes for so many pipes, sorted."""
    found = [()]
    for _ in range(pipes):
        found = [(*sizes, size) for sizes in found for size in range(1, MOST_SIZE + 1)]
    return found


def least_among(found):
    """Those of the sizes from which none of the others differs in one pipe, by one less."""
    known = {sizes: True for sizes in found}
    return [sizes for sizes in found if not any([lesser in known for lesser in _one_less(sizes)])]


def one_less_at(sizes, pipe):
    return (*sizes[:pipe], sizes[pipe] - 1, *sizes[pipe + 1 :])


def _one_less(sizes):
    return [one_less_at(sizes, pipe) for pipe in range(len(sizes))]

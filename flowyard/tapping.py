"""What can be heard of an exit through a tap that misses signs: spots, views, and the streams behind them."""

from flowyard.errors import TooMany
from flowyard.looking import look_through

_MOST_RESTS = 24
_MOST_SPOTS = 400
_MOST_VIEWS = 200


class Tap:
    """A tap at an exit of a yard that was looked through.

    For each rest the tuples (next rest, what is added) by both signs are kept. A view is a sorted
    tuple of spots (rest, what is left); the empty one stands for texts that cannot be heard.
    """

    def __init__(self, looked, outlet):
        self.first = looked.first[outlet]
        self.steps = [[(goal, texts[outlet]) for goal, texts in steps] for steps in looked.steps]
        self._later = [self._spots_behind(rest) for rest in range(len(self.steps))]
        self._known = {}
        self.whole_view = self._view_of([(0, self.first)])

    def view_behind(self, view, text):
        """The view to which the signs of a text lead from a view."""
        for sign in text:
            # Views are few and long, and texts may have many signs: so none is made twice.
            if (view, sign) not in self._known:
                spots = [(rest, left[1:]) for rest, left in view if left[:1] == sign]
                self._known[(view, sign)] = self._view_of(spots)
            view = self._known[(view, sign)]
        return view

    def view_of_text(self, text):
        return self.view_behind(self.whole_view, text)

    def rest_and_flow(self, stream):
        rest = 0
        flow = [self.first]
        for sign in stream:
            rest, text = self.steps[rest][int(sign)]
            flow.append(text)
        return rest, "".join(flow)

    def least_stream(self, text, unwanted):
        """The least stream of which the text is heard and whose rest is none of the unwanted ones; None."""
        start = (0, _met_behind(text, 0, self.first))
        # By the rest and how many signs of the text are met: what is ahead of its last sign, and this sign.
        ways = {start: None}
        waiting = [start]
        at = 0
        while at < len(waiting):
            rest, met = waiting[at]
            if met == len(text) and rest not in unwanted:
                return _way_to(ways, waiting[at])
            for sign, (goal, added) in zip("01", self.steps[rest]):
                behind = (goal, _met_behind(text, met, added))
                if behind not in ways:
                    ways[behind] = (waiting[at], sign)
                    waiting.append(behind)
            at += 1
        return None

    def _spots_behind(self, start):
        """All spots of streams that go on from a rest, by a sign at least."""
        found = {}
        waiting = [start]
        met = {}
        while waiting != []:
            rest = waiting.pop()
            if rest not in met:
                met[rest] = True
                for goal, added in self.steps[rest]:
                    waiting.append(goal)
                    for spot in _with_less_left(goal, added):
                        found[spot] = True
        return list(found)

    def _view_of(self, spots):
        """The view of these spots, and of all to which one comes from them without a sign that is let through."""
        found = {}
        for rest, left in spots:
            for spot in _with_less_left(rest, left):
                found[spot] = True
        for rest in sorted({rest for rest, _ in spots}):
            for spot in self._later[rest]:
                found[spot] = True
        return tuple(sorted(found))


class Picture:
    """All views of a tap that are not empty, as they are come to, and for each by both signs the next one's number.

    None is the number of the empty view.
    """

    def __init__(self, tap):
        self.views = [tap.whole_view]
        self.steps = []
        numbers = {tap.whole_view: 0, (): None}
        while len(self.steps) < len(self.views):
            row = [tap.view_behind(self.views[len(self.steps)], sign) for sign in "01"]
            for view in row:
                if view not in numbers:
                    if len(self.views) == _MOST_VIEWS:
                        raise TooMany("views", _MOST_VIEWS)
                    numbers[view] = len(self.views)
                    self.views.append(view)
            self.steps.append([numbers[view] for view in row])

    def number_behind(self, number, text):
        """The number of the view to which a text leads from a view."""
        for sign in text:
            if number is not None:
                number = self.steps[number][int(sign)]
        return number


def tap_at(yard, outlet):
    """A tap at the exit, with all errors that come of the yard."""
    looked = look_through(yard)
    if len(looked.rests) > _MOST_RESTS:
        raise TooMany("rests", _MOST_RESTS)
    tap = Tap(looked, outlet)
    if len(tap.whole_view) > _MOST_SPOTS:
        raise TooMany("spots", _MOST_SPOTS)
    return tap


def rests_of(view):
    """The rests of the spots of a view, rising."""
    return sorted({rest for rest, _ in view})


def least_texts(picture, ends, what, most):
    """The texts that lead from the first view to one of the ends, while no part of them does, in order.

    The ends are told for each number of a view and for None. What lies behind an end is one, too.
    """
    least = {None: [""] if ends[None] else []}
    # Each sign of such a text leads to a lesser view: so what is behind a view is known ahead of it.
    sizes = sorted([(len(view), number) for number, view in enumerate(picture.views)])
    for _, number in sizes:
        least[number] = [""] if ends[number] else _least_ahead(picture, ends, least, number)
        # No view has more of these texts than one from which a sign leads to it: so the first one has too many.
        if len(least[number]) > most:
            raise TooMany(what, most)
    return in_order(least[0])


def in_order(texts):
    """The texts, the shorter ones first."""
    return [text for _, text in sorted([(len(text), text) for text in texts])]


def _least_ahead(picture, ends, least, number):
    found = []
    for sign, goal in zip("01", picture.steps[number]):
        if goal != number:
            # A text with the sign is no least one if it leads to an end without it, too.
            for text in least[goal]:
                if not ends[picture.number_behind(number, text)]:
                    found.append(sign + text)
    return found


def _met_behind(text, met, flow):
    """How many signs of the text are met behind a flow, each as soon as it can be."""
    for sign in flow:
        if text[met : met + 1] == sign:
            met = met + 1
    return met


def _way_to(ways, place):
    signs = []
    while ways[place] is not None:
        place, sign = ways[place]
        signs.append(sign)
    return "".join(signs[::-1])


def _with_less_left(rest, left):
    """A spot, and those of the same rest with less and less left."""
    return [(rest, left[cut:]) for cut in range(len(left) + 1)]

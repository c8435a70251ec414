"""A slow reading of [31] to [36] for the tests: ENDs of all short streams, one stream after another."""

from itertools import product

from helper import slow_begin, slow_behind

_KEPT = {}


def all_texts(most, least=0):
    """All texts of so many signs, in order."""
    return ["".join(signs) for length in range(least, most + 1) for signs in product("01", repeat=length)]


def slow_end(yard, stream):
    """The END without sizes: that of all signs but the last one, and what comes of this one."""
    # The yard is kept with what is known of it, so that no other one ever has its number.
    _, known = _KEPT.setdefault(id(yard), (yard, {}))
    if stream not in known:
        state = slow_begin(yard, stream)
        if stream:
            standings, contents, _rest, flows = slow_end(yard, stream[:-1])
            state = (standings, contents, stream[-1], flows)
        known[stream] = slow_finish(yard, state)
    return known[stream]


def slow_finish(yard, state):
    """Beats of later stations ahead of those of earlier ones, until none can be done."""
    number = len(yard) - 1
    while number >= 0:
        behind = slow_behind(yard, state, number, None)
        if behind is None:
            number -= 1
        else:
            state = behind
            number = len(yard) - 1
    return state


def slow_rest(yard, stream):
    return slow_end(yard, stream)[:2]


def slow_flows(yard, stream):
    return list(slow_end(yard, stream)[3])


def slow_added(yard, stream):
    """What the last sign of the stream gives at each exit; all that is given, if there is none."""
    flows = slow_flows(yard, stream)
    if stream == "":
        return tuple(flows)
    return tuple(flow[len(ahead):] for flow, ahead in zip(flows, slow_flows(yard, stream[:-1])))


def slow_look(yard, most):
    """Go through all streams of up to so many signs: the rests with their least streams, and the first error.

    An error is told as a tuple of its class's name and its attributes.
    """
    met = {}
    for stream in all_texts(most):
        rest = slow_rest(yard, stream)
        if any(len(text) > 3 for text in rest[1]):
            return met, ("NotHeld", stream)
        met.setdefault(rest, stream)
        if len(met) > 60:
            return met, ("TooMany", "rests", 60)
        if any(len(text) > 16 for text in slow_added(yard, stream)):
            return met, ("TooMany", "signs", 16)
    return met, None


class Steps:
    """The steps between the rests of a held yard, found by ENDs of streams alone."""

    def __init__(self, yard):
        self.rests = [slow_rest(yard, "")]
        self.streams = [""]
        self.first = slow_added(yard, "")
        self.steps = []
        while len(self.steps) < len(self.rests):
            row = []
            for sign in "01":
                stream = self.streams[len(self.steps)] + sign
                rest = slow_rest(yard, stream)
                if rest not in self.rests:
                    self.rests.append(rest)
                    self.streams.append(stream)
                row.append((self.rests.index(rest), slow_added(yard, stream)))
            self.steps.append(row)

    def flow_from(self, rest, outlet, text):
        """The rest behind a text, and what is given at an exit meanwhile."""
        flow = ""
        for sign in text:
            rest, texts = self.steps[rest][int(sign)]
            flow += texts[outlet]
        return rest, flow

    def endless_flow(self, outlet, begin, lap, rest=None):
        """The shortest (begin, lap) of the flow, from a rest on, or of all of it; tried one after another."""
        ahead = self.first[outlet] if rest is None else ""
        rest, flow = self.flow_from(rest or 0, outlet, begin)
        flow = ahead + flow
        for _ in range(len(self.rests)):
            rest, more = self.flow_from(rest, outlet, lap)
            flow += more
        _, round_flow = self.flow_from(rest, outlet, lap * len(self.rests))
        _, many = self.flow_from(rest, outlet, lap * 8 * len(self.rests))
        if not many:
            return flow, ""
        flow += many
        for cut in range(len(flow)):
            for length in range(1, len(round_flow) + 1):
                if told(flow[:cut], flow[cut:cut + length], len(flow)) == flow:
                    return flow[:cut], flow[cut:cut + length]
        raise AssertionError((begin, lap))


def told(begin, lap, length):
    """The first signs of the flow that is told by two texts."""
    return (begin + lap * length)[:length] if lap else begin[:length]


def endless_streams(most_begin, most_lap):
    return [(begin, lap) for begin in all_texts(most_begin) for lap in all_texts(most_lap, 1)]


def small_held(yard, most):
    """Whether the yard is one with at most so many rests, all of which come by short streams."""
    met, error = slow_look(yard, 1)
    if error is not None:
        return False
    met, error = slow_look(yard, min(most + 1, 7))
    return error is None and len(met) <= most and all(len(stream) < 7 for stream in met.values())

"""What a yard gives of endless streams at one exit, each flow told by two texts (begin, lap)."""

from flowyard.laps import lap_through


def shortest(begin, lap):
    """The same flow told by texts as short as they can be."""
    if lap == "":
        return (begin, "")
    lap = lap[: (lap + lap).find(lap, 1)]
    turned = 0
    while turned < len(begin) and begin[-1 - turned] == lap[-1 - turned % len(lap)]:
        turned += 1
    cut = len(lap) - turned % len(lap)
    return (begin[: len(begin) - turned], lap[cut:] + lap[:cut])


def with_ahead(text, flow):
    """The flow that has the text and then the given flow."""
    begin, lap = flow
    return shortest(text + begin, lap)


def flow_from(looked, outlet, rest, stream):
    """The flow of an endless stream from a rest on."""
    begin, lap = stream
    rest, texts = looked.led(rest, begin)
    flow = texts[outlet]
    lengths = {}
    while rest not in lengths:
        lengths[rest] = len(flow)
        rest, texts = looked.led(rest, lap)
        flow = flow + texts[outlet]
    return shortest(flow[: lengths[rest]], flow[lengths[rest] :])


def whole_flow(looked, outlet, stream):
    """The flow of an endless stream, what the empty stream gives ahead."""
    return with_ahead(looked.first[outlet], flow_from(looked, outlet, 0, stream))


def flows_of_zeros(looked, outlet):
    """For each rest the flow of 0, 0 and so on; a settled rest has no other one."""
    return [flow_from(looked, outlet, rest, ("", "0")) for rest in range(len(looked.rests))]


def ways_apart(looked, outlet):
    """For each rest two endless streams whose flows from there are unlike; None for a settled one."""
    flows = flows_of_zeros(looked, outlet)
    silent = silent_edges(looked, outlet)
    found = [_apart_at(looked.steps[rest][1], outlet, flows, silent, rest) for rest in range(len(flows))]
    for _ in flows:
        found = [_apart_behind(found, rest, looked.steps[rest]) for rest in range(len(flows))]
    return found


def _apart_at(step, outlet, flows, silent, rest):
    """Two such streams that show themselves at this rest: by the sign 1, or by a lap that gives nothing."""
    goal, texts = step
    if with_ahead(texts[outlet], flows[goal]) != flows[rest]:
        return [("", "0"), ("1", "0")]
    lap = lap_through(silent, rest)
    if lap is not None and flows[rest] != ("", ""):
        return [("", "0"), ("", "".join(lap))]
    return None


def _apart_behind(found, rest, steps):
    if found[rest] is not None:
        return found[rest]
    for sign, (goal, _) in zip("01", steps):
        if found[goal] is not None:
            return [(sign + begin, lap) for begin, lap in found[goal]]
    return None


def silent_edges(looked, outlet):
    """For each rest the steps that give nothing at the exit."""
    edges = {}
    for number, steps in enumerate(looked.steps):
        edges[number] = [(sign, rest) for sign, (rest, texts) in zip("01", steps) if texts[outlet] == ""]
    return edges

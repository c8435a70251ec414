"""The least stream whose last sign is as late as any."""


def least_late_stream(paced, apart, delay):
    """The least stream whose last sign has this delay, which none exceeds."""
    # What beats of what was in the pipes make late is so behind any first sign.
    if paced.over == delay:
        return "0"
    further = _further_until(paced, apart, delay)
    rest = 0
    late = paced.start()
    stream = ""
    for last in further[-2::-1]:
        sign = _sign_towards(paced, late, rest, apart, delay, last)
        rest, late = paced.moved(late, rest, sign, apart)
        stream = stream + sign
    if paced.last_end(late, rest, "0") == delay:
        return stream + "0"
    return stream + "1"


def _further_until(paced, apart, delay):
    """How much later than each node a sign can be done, that with none, one, two .. signs between them.

    The last one of these dicts is the first by which a sign behind the beginning has the delay.
    """
    rows = [_further_at_once(paced)]
    while _greatest_sum(paced.start(), rows[-1]) < delay:
        rows.append(_one_sign_further(paced, apart, rows[-1]))
    return rows


def _further_at_once(paced):
    found = {}
    for (rest, _), ends in paced.ends.items():
        for slot, ticks in ends.items():
            found[(rest, slot)] = max(ticks, found.get((rest, slot), ticks))
    return found


def _one_sign_further(paced, apart, last):
    found = {}
    for node, later, ticks, _ in paced.with_comings(apart):
        if later in last:
            reached = ticks - apart + last[later]
            found[node] = max(reached, found.get(node, reached))
    return found


def _sign_towards(paced, late, rest, apart, delay, last):
    """The lesser sign behind which the delay can be come to in as many signs as last tells."""
    _, behind = paced.moved(late, rest, "0", apart)
    if _greatest_sum(behind, last) == delay:
        return "0"
    return "1"


def _greatest_sum(late, further):
    return max([late[node] + further[node] for node in late if node in further])

"""Two yards that were looked through, side by side: pairs of a rest of the one and a rest of the other."""

from flowyard.errors import TooMany


def check_pairs(mine, yours, most):
    """TooMany if the streams lead to more pairs."""
    met = {(0, 0): True}
    waiting = [(0, 0)]
    while waiting != []:
        my_rest, your_rest = waiting.pop()
        for (my_goal, _), (your_goal, _) in zip(mine.steps[my_rest], yours.steps[your_rest]):
            if (my_goal, your_goal) not in met:
                met[(my_goal, your_goal)] = True
                waiting.append((my_goal, your_goal))
    if len(met) > most:
        raise TooMany("pairs", most)


def compared(mine, yours, outlets):
    """The least stream that parts them at one of these exits and None, or None and the pairs of all streams."""
    if _are_unlike(mine.first, yours.first, outlets):
        return "", None
    pairs = [(0, 0)]
    streams = {(0, 0): ""}
    at = 0
    while at < len(pairs):
        pair = pairs[at]
        at += 1
        for sign in "01":
            stream = streams[pair] + sign
            my_rest, my_texts = mine.steps[pair[0]][int(sign)]
            your_rest, your_texts = yours.steps[pair[1]][int(sign)]
            if _are_unlike(my_texts, your_texts, outlets):
                return stream, None
            if (my_rest, your_rest) not in streams:
                streams[(my_rest, your_rest)] = stream
                pairs.append((my_rest, your_rest))
    return None, pairs


def _are_unlike(mine, yours, outlets):
    return any([mine[outlet] != yours[outlet] for outlet in outlets])

"""A slow reading of [71] to [76] for the tests: all short streams, all ends of what their last signs added."""

from itertools import combinations

from slow_rests import Steps, all_texts


def is_part_of(text, whole):
    """Whether signs of the whole can be left out so that the text is there: all choices of places are tried."""
    if len(whole) > 12:
        waiting = iter(whole)
        return all(sign in waiting for sign in text)
    return any("".join(whole[at] for at in places) == text for places in combinations(range(len(whole)), len(text)))


def parts_of_text(text):
    """All parts of a text but itself."""
    found = set()
    for many in range(len(text)):
        found |= {"".join(text[at] for at in places) for places in combinations(range(len(text)), many)}
    return found


class Listening:
    """A yard of few rests at an exit, and all its streams of up to so many signs."""

    def __init__(self, yard, outlet, most):
        self.steps = Steps(yard)
        self.outlet = outlet
        # For each stream its rest, its flow, and what its last sign added.
        self.known = {"": (0, self.steps.first[outlet], self.steps.first[outlet])}
        for stream in all_texts(most, 1):
            rest, flow, _ = self.known[stream[:-1]]
            goal, texts = self.steps.steps[rest][int(stream[-1])]
            self.known[stream] = (goal, flow + texts[outlet], texts[outlet])

    def view(self, text):
        """The spots behind the text, by all these streams."""
        found = set()
        for rest, flow, added in self.known.values():
            for cut in range(len(added) + 1):
                left = added[cut:]
                if is_part_of(text, flow[:len(flow) - len(left)]):
                    found.add((rest, left))
        return sorted(found)

    def first_stream(self, text, unwanted=()):
        for stream in sorted(self.known, key=lambda stream: (len(stream), stream)):
            rest, flow, _ = self.known[stream]
            if rest not in unwanted and is_part_of(text, flow):
                return stream
        return None

    def is_closed(self, text, value):
        """By the words of the point."""
        told = set(value)
        if (0, self.steps.first[self.outlet], 0) not in told:
            return False
        for rest, left, met in value:
            asked = {(goal, texts[self.outlet], met) for goal, texts in self.steps.steps[rest]}
            if left:
                asked.add((rest, left[1:], met))
            if left and met < len(text) and left[0] == text[met]:
                asked.add((rest, left[1:], met + 1))
            if not asked <= told:
                return False
        return True

    def is_sure_paper(self, rests, text, stream, spots):
        _, flow = self.behind(stream)
        return (is_part_of(text, flow) and self.is_closed(text, spots)
                and all(rest in rests for rest, _, met in spots if met == len(text)))

    def behind(self, stream):
        rest, flow = self.steps.flow_from(0, self.outlet, stream)
        return rest, self.steps.first[self.outlet] + flow

"""By how much the flow at an exit of one yard is ahead of that at an exit of another one."""

from flowyard.endless import flows_of_zeros, ways_apart, with_ahead
from flowyard.laps import any_lap


class Race:
    """Two exits, each of a yard that was looked through.

    Its leads are tuples (rest, rest, mine, yours) of texts of which at least one is empty,
    unless the two flows are unlike.
    """

    def __init__(self, one, one_exit, other, other_exit):
        self._one = one
        self._one_exit = one_exit
        self._other = other
        self._other_exit = other_exit
        self._my_flows = flows_of_zeros(one, one_exit)
        self._your_flows = flows_of_zeros(other, other_exit)
        self.my_ways = ways_apart(one, one_exit)
        self.your_ways = ways_apart(other, other_exit)

    def start(self):
        mine, yours = _left(self._one.first[self._one_exit], self._other.first[self._other_exit])
        return (0, 0, mine, yours)

    def next_lead(self, lead, sign):
        """The lead behind the steps by the sign."""
        my_rest, your_rest, mine, yours = lead
        my_goal, my_text, your_goal, your_text = self._steps(my_rest, your_rest, sign)
        return (my_goal, your_goal, *_left(mine + my_text, yours + your_text))

    def gives_nothing(self, lead, sign):
        """Whether both steps by the sign are silent at these exits."""
        _, my_text, _, your_text = self._steps(lead[0], lead[1], sign)
        return my_text == "" and your_text == ""

    def are_settled(self, lead):
        return self.my_ways[lead[0]] is None and self.your_ways[lead[1]] is None

    def fits(self, lead):
        """Whether both rests are settled, and fit the two texts."""
        my_rest, your_rest, mine, yours = lead
        if not self.are_settled(lead):
            return False
        return with_ahead(mine, self._my_flows[my_rest]) == with_ahead(yours, self._your_flows[your_rest])

    def _steps(self, my_rest, your_rest, sign):
        my_goal, my_texts = self._one.steps[my_rest][int(sign)]
        your_goal, your_texts = self._other.steps[your_rest][int(sign)]
        return my_goal, my_texts[self._one_exit], your_goal, your_texts[self._other_exit]


def found_leads(race):
    """The leads of an ahead list, or None and endless streams of which one has unlike flows."""
    streams = {}
    known = {}
    waiting = [(race.start(), "")]
    at = 0
    while at < len(waiting):
        lead, stream = waiting[at]
        at += 1
        if lead in streams or race.fits(lead):
            continue
        pair = lead[:2]
        if race.are_settled(lead) or is_torn(lead):
            return None, [(stream, "0")]
        if pair in known:
            return None, _partings(race, pair, [streams[known[pair]], stream])
        streams[lead] = stream
        known[pair] = lead
        waiting.extend([(race.next_lead(lead, sign), stream + sign) for sign in "01"])
    lap = standing_lap(race, streams)
    if lap is not None:
        return None, [(streams[lap[0]], lap[1])]
    return list(streams), []


def is_torn(lead):
    """Whether signs are left of both texts, which then begin with unlike ones."""
    return lead[2] != "" and lead[3] != ""


def standing_lap(race, leads):
    """A lead with a sign left, and a text that gives nothing and goes through leads alone back to it.

    None without one.
    """
    edges = {}
    for lead in leads:
        if lead[2] != lead[3]:
            silent = [(sign, race.next_lead(lead, sign)) for sign in "01" if race.gives_nothing(lead, sign)]
            edges[lead] = [(sign, goal) for sign, goal in silent if goal in leads]
    lap = any_lap(edges)
    if lap is None:
        return None
    return lap[0][0], "".join([sign for _, sign in lap])


def _partings(race, pair, streams):
    """Endless streams through two rests, at which more than one lead stands, of which one parts."""
    ways = race.my_ways[pair[0]]
    if ways is None:
        ways = race.your_ways[pair[1]]
    return [(stream + begin, lap) for stream in streams for begin, lap in ways]


def _left(mine, yours):
    """Both texts without their longest common beginning."""
    same = 0
    while same < min(len(mine), len(yours)) and mine[same] == yours[same]:
        same += 1
    return mine[same:], yours[same:]

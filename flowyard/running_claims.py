"""Claims about runs, rests, room and delays: when they are true, and which papers show it."""

from flowyard.basics import is_count
from flowyard.forever import ahead_list, are_same_for_ever, endless_parting, is_ahead_list, is_endless_parting
from flowyard.needs import beats, chain, is_chain, is_run_against, must_be_ahead, run_against
from flowyard.pace import are_heights, delay, heights, is_later, late_stream, ring_mean, slowest
from flowyard.rests import is_held, is_held_paper, is_overfilling, overfilling, rests
from flowyard.rings import is_reason, reason
from flowyard.room import are_enough, are_enough_for, is_room_list, is_standstill, room_list, standstill
from flowyard.runs import full_run, is_full, is_run
from flowyard.same import are_same, is_parting, is_same_paper, parting, same_paper
from flowyard.yards import Yard

# By the first words: how many parts there are, and which of them are yards.
_PARTS = {
    "ahead": (4, (0,)),
    "held": (2, (0,)),
    "same": (2, (0, 1)),
    "same for ever": (4, (0, 2)),
    "enough": (2, (0,)),
    "enough for": (3, (0,)),
    "in time": (4, (0,)),
}


class RunningClaims:
    """Each method is told the first word of a line of the table, and the parts."""

    def are_parts(self, word, parts):
        """Whether they are as many as the line tells, and yards where it tells some."""
        many, yards = _PARTS[word]
        return len(parts) == many and all([isinstance(parts[place], Yard) for place in yards])

    def is_first_true(self, word, parts):
        """Whether the claim of the first word is true; None, or an error of a function, if the parts make no claim."""
        if word == "ahead":
            must = must_be_ahead(*parts)
            return None if parts[2] == parts[3] else must
        if word == "held":
            return is_held(*parts)
        if word == "same":
            return are_same(*parts)
        if word == "same for ever":
            return are_same_for_ever(*parts)
        if word == "enough":
            return are_enough(*parts)
        if word == "enough for":
            # This raises an error if there are more beats than in a claim.
            beats(parts[0], parts[2])
            return are_enough_for(*parts)
        yard, apart, sizes, bound = parts
        late = delay(yard, apart, sizes)
        if not is_count(bound):
            return None
        return late is not None and late <= bound

    def first_paper(self, word, parts):
        """A paper of the claim of the first word, which is true."""
        if word == "ahead":
            return chain(*parts)
        if word == "held":
            return rests(parts[0])
        if word == "same":
            return same_paper(*parts)
        if word == "same for ever":
            return ahead_list(*parts)
        if word == "enough":
            return room_list(*parts)
        if word == "enough for":
            yard, sizes, stream = parts
            return full_run(yard, stream, sizes)
        yard, apart, sizes, _ = parts
        return heights(yard, apart, sizes)

    def second_paper(self, word, parts):
        """A paper of the claim of the second word, which is true."""
        if word == "ahead":
            return run_against(*parts)
        if word == "held":
            return overfilling(*parts)
        if word == "same":
            return parting(*parts)
        if word == "same for ever":
            return endless_parting(*parts)
        if word == "enough":
            return standstill(*parts)
        if word == "enough for":
            return reason(*parts)
        yard, apart, sizes, _ = parts
        stream = late_stream(yard, apart, sizes)
        if stream is None:
            return slowest(yard, sizes)
        return stream

    def is_first_paper(self, word, parts, value):
        if word == "ahead":
            return is_chain(*parts, value)
        if word == "held":
            return is_held_paper(*parts, value)
        if word == "same":
            return is_same_paper(*parts, value)
        if word == "same for ever":
            return is_ahead_list(*parts, value)
        if word == "enough":
            return is_room_list(*parts, value)
        if word == "enough for":
            yard, sizes, stream = parts
            return is_run(yard, stream, value, sizes) and is_full(yard, stream, value)
        yard, apart, sizes, bound = parts
        return are_heights(yard, apart, bound, value, sizes)

    def is_second_paper(self, word, parts, value):
        if word == "ahead":
            return is_run_against(*parts, value)
        if word == "held":
            return is_overfilling(*parts, value)
        if word == "same":
            return is_parting(*parts, value)
        if word == "same for ever":
            return is_endless_parting(*parts, value)
        if word == "enough":
            return is_standstill(*parts, value)
        if word == "enough for":
            return is_reason(*parts, value)
        yard, apart, sizes, bound = parts
        return is_later(yard, apart, bound, value, sizes) or _is_slower(yard, apart, sizes, value)


def _is_slower(yard, apart, sizes, value):
    """Whether it is a ring that takes more ticks than its signs take to come."""
    mean = ring_mean(yard, value, sizes)
    return mean is not None and mean[0] > apart * mean[1]

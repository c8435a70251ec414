"""Claims about endless flows and what is heard of flows: when they are true, and which papers show it."""

from flowyard.alarms import is_sure, is_sure_paper, is_unsure, sure_paper, unsure_stream
from flowyard.basics import is_text
from flowyard.taps import are_twins, can_be_heard, heard_apart, twins
from flowyard.watch import (
    are_bars,
    are_ranks,
    bars,
    breaker,
    is_breaker,
    is_kept,
    is_kept_paper,
    is_live,
    is_silent_stream,
    is_witness,
    kept_paper,
    ranks,
    silent_stream,
    witness,
)
from flowyard.wishes import Wish
from flowyard.yards import Yard

_MOST_SIGNS = 8

# By the first words: how many parts there are, which of them are yards, and which are wishes.
_PARTS = {
    "live": (2, (0,), ()),
    "granted": (3, (0,), (2,)),
    "passed": (4, (0,), (2,)),
    "sure": (4, (0,), ()),
    "twins": (4, (0, 2), ()),
}


class FlowingClaims:
    """Each method is told the first word of a line of the table, and the parts."""

    def are_parts(self, word, parts):
        """Whether they are as many as the line tells, and yards and wishes where it tells some."""
        many, yards, wishes = _PARTS[word]
        if len(parts) != many or not all([isinstance(parts[place], Yard) for place in yards]):
            return False
        return all([isinstance(parts[place], Wish) for place in wishes])

    def is_first_true(self, word, parts):
        """Whether the claim of the first word is true; None, or an error of a function, if the parts make no claim."""
        if word == "live":
            return is_live(*parts)
        if word == "granted":
            return is_kept(*parts)
        if word == "passed":
            return witness(*parts) is not None
        if word == "twins":
            return heard_apart(*parts) is None
        sure = is_sure(*parts)
        return None if len(parts[3]) > _MOST_SIGNS else sure

    def first_paper(self, word, parts):
        """A paper of the claim of the first word, which is true."""
        if word == "live":
            return ranks(*parts)
        if word == "granted":
            return kept_paper(*parts)
        if word == "passed":
            return witness(*parts)
        if word == "twins":
            return twins(*parts)
        return sure_paper(*parts)

    def second_paper(self, word, parts):
        """A paper of the claim of the second word, which is true."""
        if word == "live":
            return silent_stream(*parts)
        if word == "granted":
            return breaker(*parts)
        if word == "passed":
            return bars(*parts)
        if word == "twins":
            return heard_apart(*parts)
        return unsure_stream(*parts)

    def is_first_paper(self, word, parts, value):
        if word == "live":
            return are_ranks(*parts, value)
        if word == "granted":
            return is_kept_paper(*parts, value)
        if word == "passed":
            return is_witness(*parts, value)
        if word == "twins":
            return are_twins(*parts, value)
        return is_sure_paper(*parts, value)

    def is_second_paper(self, word, parts, value):
        if word == "live":
            return is_silent_stream(*parts, value)
        if word == "granted":
            return is_breaker(*parts, value)
        if word == "passed":
            return are_bars(*parts, value)
        if word == "twins":
            return _is_heard_of_one(*parts, value)
        return is_unsure(*parts, value)


def _is_heard_of_one(one, outlet, other, second, value):
    """Whether it is a text that can be heard at just one of both exits."""
    if not is_text(value):
        return False
    return can_be_heard(one, outlet, value) != can_be_heard(other, second, value)

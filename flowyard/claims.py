"""Claims, each with its contrary one, and papers that show which of both is true."""

from flowyard.errors import FlowError, InvalidClaim, LimitError, MissingError, StateError
from flowyard.flowing_claims import FlowingClaims
from flowyard.running_claims import RunningClaims
from flowyard.swapping_claims import SwappingClaims

WORDS = [
    ("ahead", "free"),
    ("held", "overfilled"),
    ("same", "parted"),
    ("same for ever", "parted for ever"),
    ("enough", "still"),
    ("enough for", "stuck"),
    ("in time", "late"),
    ("live", "silent"),
    ("granted", "broken"),
    ("passed", "barred"),
    ("sure", "unsure"),
    ("twins", "told apart"),
    ("unseen", "seen"),
]


def is_claim(value):
    return _truth_of(value) is not None


def is_true(claim):
    return _checked_truth(claim)


def contrary(claim):
    _checked_truth(claim)
    first, second = _words_of(claim)
    other = second if claim[0] == first else first
    return (other, *[_copied(part) for part in claim[1:]])


def paper_of(claim):
    if not _checked_truth(claim):
        return None
    first, _ = _words_of(claim)
    if claim[0] == first:
        return _claims_of(first).first_paper(first, claim[1:])
    return _claims_of(first).second_paper(first, claim[1:])


def is_paper(claim, value):
    _checked_truth(claim)
    first, _ = _words_of(claim)
    if claim[0] == first:
        return _claims_of(first).is_first_paper(first, claim[1:], value)
    return _claims_of(first).is_second_paper(first, claim[1:], value)


def _checked_truth(claim):
    """Whether the claim is true; InvalidClaim if it is none."""
    truth = _truth_of(claim)
    if truth is None:
        raise InvalidClaim(claim)
    return truth


def _truth_of(value):
    """Whether it is a true claim or one that is not true; None if it is no claim."""
    words = _words_of(value)
    if words is None or not _claims_of(words[0]).are_parts(words[0], value[1:]):
        return None
    try:
        truth = _claims_of(words[0]).is_first_true(words[0], value[1:])
    except (FlowError, MissingError, StateError, LimitError):
        return None
    if truth is None:
        return None
    return truth == (value[0] == words[0])


def _words_of(value):
    """The two words of the line of a claim; None if it has no word of the table."""
    if not isinstance(value, tuple) or len(value) == 0 or not isinstance(value[0], str):
        return None
    for words in WORDS:
        if value[0] in words:
            return words
    return None


def _claims_of(first):
    """The claims to which the line with this first word belongs."""
    if first == "unseen":
        return SwappingClaims()
    if first in ("live", "granted", "passed", "sure", "twins"):
        return FlowingClaims()
    return RunningClaims()


def _copied(part):
    if isinstance(part, list):
        return list(part)
    return part

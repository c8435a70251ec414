"""Yards that cannot be looked through, for the tests: each with the error that it brings."""

from flowyard import errors
from helper import OVERVIEW
from some_yards import counting, doubling

FILLING = (OVERVIEW, errors.NotHeld, {"stream": "0" * 7})
RESTING = (counting(61), errors.TooMany, {"what": "rests", "limit": 60})
SHOUTING = (doubling(5), errors.TooMany, {"what": "signs", "limit": 16})
NOT_LOOKED = [FILLING, RESTING, SHOUTING]


def fails_looking(cases, call):
    """The call, of a yard, brings these errors."""
    for yard, error, attributes in NOT_LOOKED:
        cases.fails(error, attributes, call, yard)


def fails_looking_at_two(cases, call):
    """The call, of two yards, looks through the first one first."""
    fails_looking(cases, lambda yard: call(yard, OVERVIEW))
    fails_looking(cases, lambda yard: call(yard, counting(61)))
    fails_looking(cases, lambda yard: call(counting(16), yard))

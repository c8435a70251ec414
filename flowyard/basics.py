"""Questions that can be asked of any value, and fractions."""

from math import gcd

_MOST_SIGNS = 1000


def is_integer(value):
    return isinstance(value, int) and not isinstance(value, bool)


def is_count(value):
    return is_integer(value) and value >= 0


def is_sign(value):
    return isinstance(value, str) and value in ("0", "1")


def is_text(value):
    return isinstance(value, str) and value.strip("01") == ""


def is_text_up_to(value, most):
    """Whether it is a text of at most so many signs."""
    return is_text(value) and len(value) <= most


def is_from_to(value, least, most):
    """Whether it is an INTEGER from least to most, both counted."""
    return is_integer(value) and least <= value <= most


def is_stream(value):
    """Whether it can be passed as a stream."""
    return is_text_up_to(value, _MOST_SIGNS)


def is_lap(value):
    """Whether it can be the lap of an endless stream, of any length."""
    return is_text(value) and value != ""


def is_endless_stream(value):
    """Whether it is an endless stream as a paper, which both parts keep short."""
    return is_tuple_of(value, 2) and is_stream(value[0]) and is_stream(value[1]) and is_lap(value[1])


def is_below(value, limit):
    """Whether it is the number of one of so many things."""
    return is_count(value) and value < limit


def is_list(value):
    """Whether it can be passed where a list is asked for."""
    return isinstance(value, (list, tuple))


def is_tuple_of(value, length):
    return isinstance(value, tuple) and len(value) == length


def lowest_terms(many, of):
    """The fraction as a tuple in lowest terms."""
    common = gcd(many, of)
    return (many // common, of // common)

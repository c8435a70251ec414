"""Values that are spoilt, for judges that are asked of any value."""

from helper import odd_values


def wrong_kinds(value):
    """The value with itself or one of its parts told by a value of another kind.

    A list is never told by a tuple here, as that is allowed; a tuple is told by a list.
    """
    if isinstance(value, bool) or value is None:
        return []
    if isinstance(value, int):
        return [None, str(value), [value], (value,)] + ([bool(value)] if value in (0, 1) else [])
    if isinstance(value, str):
        return [None, value.encode(), list(value) + ["0"], (value,), value + "x", value + "\n"]
    if isinstance(value, dict):
        return [None, list(value.items()), tuple(value), set(value)] + spoilt_dicts(value)
    found = [None, dict(enumerate(value)), str(value), iter(value)]
    if isinstance(value, tuple):
        found.append(list(value))
    for at, part in enumerate(value):
        for spoilt in wrong_kinds(part):
            found.append(type(value)([*value[:at], spoilt, *value[at + 1:]]))
    return found


def spoilt_dicts(value):
    found = []
    for key in value:
        others = {other: part for other, part in value.items() if other != key}
        found += [{**others, key: spoilt} for spoilt in wrong_kinds(value[key])]
        for spoilt in wrong_kinds(key):
            if is_hashable(spoilt):
                found.append({**others, spoilt: value[key]})
    return found


def is_hashable(value):
    try:
        hash(value)
    except TypeError:
        return False
    return not hasattr(value, "__next__")


def with_tuples(value):
    """The value with all lists in it told as tuples."""
    if isinstance(value, dict):
        return {key: with_tuples(part) for key, part in value.items()}
    if isinstance(value, (list, tuple)):
        return tuple(with_tuples(part) for part in value)
    return value


def few(values, most):
    """At most about so many of the values, from all over the list."""
    return values[::1 + len(values) // most]


def no_sizes(yard):
    """Values of all kinds that are no sizes of a yard with one pipe or more."""
    number = len(yard.pipes)
    rows = [(0,) * number, (4,) * number, (-1,) * number, (True,) * number, ("1",) * number, (None,) * number,
            [1] * number, (1,) * (number - 1), (1,) * (number + 1), (1,) * (number - 1) + (False,), ((1,),) * number]
    return odd_values() + rows + [0, 1, "", "1", [], None]
